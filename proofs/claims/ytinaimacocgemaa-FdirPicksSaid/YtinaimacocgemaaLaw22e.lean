/- Layer 22: == of alarms and of ladders. -/
import Derived.Test.YtinaimacocgemaaLaw22
namespace Go.Proofs.Ytinaimacocgemaa
open Go.RowKit Go.Own Bs
set_option linter.unusedVariables false
set_option linter.unusedSimpArgs false
theorem wf_b8 {x : Nat} (h : x < 256) : (Lit.int .u8 (x : Int)).wf = true := by
  have e1 : IntKind.u8.min = 0 := by decide
  have e2 : IntKind.u8.max = 255 := by decide
  simp [Lit.wf, e1, e2]
  omega
theorem eqAl {l ev l2 ev2 : Nat} {u u2 : Int} (hl : l < 256) (hu : (Lit.int .i64 u).wf = true) (he : ev < 256) (hl2 : l2 < 256) (hu2 : (Lit.int .i64 u2).wf = true) (he2 : ev2 < 256) (w : World) : (binOp .eql 84 (.agg #[.int .u8 ((l : Nat) : Int), .int .i64 u, .int .u8 ((ev : Nat) : Int)]) (.agg #[.int .u8 ((l2 : Nat) : Int), .int .i64 u2, .int .u8 ((ev2 : Nat) : Int)])).run Try.prog w = .ok (.bool (decide (l = l2 ∧ u = u2 ∧ ev = ev2))) w := by
  obtain ⟨r, h, hi⟩ := eql_plain (P := Try.prog) (t := 84) (sh := [.int .u8, .int .i64, .int .u8]) (xs := #[.int .u8 ((l : Nat) : Int), .int .i64 u, .int .u8 ((ev : Nat) : Int)]) (ys := #[.int .u8 ((l2 : Nat) : Int), .int .i64 u2, .int .u8 ((ev2 : Nat) : Int)]) (m := 9) (by omega) (by kernel_rfl) (by kernel_rfl) (by kernel_rfl) (by kernel_rfl) ⟨⟨_, rfl, wf_b8 hl⟩, ⟨_, rfl, hu⟩, ⟨_, rfl, wf_b8 he⟩, trivial⟩ ⟨⟨_, rfl, wf_b8 hl2⟩, ⟨_, rfl, hu2⟩, ⟨_, rfl, wf_b8 he2⟩, trivial⟩ w
  have e : r = decide (l = l2 ∧ u = u2 ∧ ev = ev2) := by
    rw [Bool.eq_iff_iff, hi, decide_eq_true_eq]
    simp
    omega
  rw [h, e]
def ldSh : List Leaf := [.int .u8, .int .u8, .int .u8, .int .u8, .int .u8, .int .u8, .int .u8, .int .u8, .int .u8, .int .u8]
theorem ld_plain {L C : Nat → Nat} (hL : Lb L) (hC : Lb C) : Plain ldSh (#[.int .u8 ((L 0 : Nat) : Int), .int .u8 ((L 1 : Nat) : Int), .int .u8 ((L 2 : Nat) : Int), .int .u8 ((L 3 : Nat) : Int), .int .u8 ((L 4 : Nat) : Int), .int .u8 ((C 0 : Nat) : Int), .int .u8 ((C 1 : Nat) : Int), .int .u8 ((C 2 : Nat) : Int), .int .u8 ((C 3 : Nat) : Int), .int .u8 ((C 4 : Nat) : Int)] : Array Value).toList :=
  ⟨⟨_, rfl, wf_b8 (hL 0 (by decide))⟩, ⟨_, rfl, wf_b8 (hL 1 (by decide))⟩, ⟨_, rfl, wf_b8 (hL 2 (by decide))⟩, ⟨_, rfl, wf_b8 (hL 3 (by decide))⟩, ⟨_, rfl, wf_b8 (hL 4 (by decide))⟩, ⟨_, rfl, wf_b8 (hC 0 (by decide))⟩, ⟨_, rfl, wf_b8 (hC 1 (by decide))⟩, ⟨_, rfl, wf_b8 (hC 2 (by decide))⟩, ⟨_, rfl, wf_b8 (hC 3 (by decide))⟩, ⟨_, rfl, wf_b8 (hC 4 (by decide))⟩, trivial⟩
theorem eqLd {L C : Nat → Nat} (hL : Lb L) (hC : Lb C) (w : World) : (binOp .eql 100 (.agg #[.int .u8 ((L 0 : Nat) : Int), .int .u8 ((L 1 : Nat) : Int), .int .u8 ((L 2 : Nat) : Int), .int .u8 ((L 3 : Nat) : Int), .int .u8 ((L 4 : Nat) : Int), .int .u8 ((C 0 : Nat) : Int), .int .u8 ((C 1 : Nat) : Int), .int .u8 ((C 2 : Nat) : Int), .int .u8 ((C 3 : Nat) : Int), .int .u8 ((C 4 : Nat) : Int)]) (.agg #[.int .u8 ((L 0 : Nat) : Int), .int .u8 ((L 1 : Nat) : Int), .int .u8 ((L 2 : Nat) : Int), .int .u8 ((L 3 : Nat) : Int), .int .u8 ((L 4 : Nat) : Int), .int .u8 ((C 0 : Nat) : Int), .int .u8 ((C 1 : Nat) : Int), .int .u8 ((C 2 : Nat) : Int), .int .u8 ((C 3 : Nat) : Int), .int .u8 ((C 4 : Nat) : Int)])).run Try.prog w = .ok (.bool true) w := by
  obtain ⟨r, h, hi⟩ := eql_plain (P := Try.prog) (t := 100) (sh := ldSh) (m := 9) (by omega) (by kernel_rfl) (by kernel_rfl) (by kernel_rfl) (by kernel_rfl) (ld_plain hL hC) (ld_plain hL hC) w
  rw [h, hi.2 rfl]
end Go.Proofs.Ytinaimacocgemaa
