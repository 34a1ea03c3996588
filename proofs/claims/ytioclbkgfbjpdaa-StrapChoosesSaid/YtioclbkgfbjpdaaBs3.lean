/- Sets of units: Less, Count. -/
import Derived.Test.YtioclbkgfbjpdaaBs2
import Derived.Lib.Tables
import Derived.Deep.QuietTactic
import Derived.BigQuiet
namespace Go.Proofs.Ytioclbkgfbjpdaa.Bs
open Go.RowKit Go.Own
set_option linter.unusedVariables false
set_option linter.unusedSimpArgs false
theorem below_drewsB (B : Nat) (w : World) (n : Nat) : Below B w (w.drewN n) := ⟨rfl, rfl, rfl, Nat.le_refl _, fun _ _ => rfl⟩
theorem pop8_le : ∀ i : Nat, i < 256 → 0 ≤ Lib.pop8 (i : Int) ∧ Lib.pop8 (i : Int) ≤ 8 := by decide +kernel
theorem and255 (x : Nat) : x &&& 255 = x % 256 := Nat.and_two_pow_sub_one_eq_mod x 8
set_option maxRecDepth 100000 in
set_option maxHeartbeats 2000000 in
theorem Ones_any (x : Nat) (w : World) (hx : x < 65536) : Calls Try.prog 82 #[.int .u16 x] w fun e w' => e = .returned (.int .i64 (Lib.pop8 ((x / 256 : Nat) : Int) + Lib.pop8 ((x % 256 : Nat) : Int))) ∧ Below w.heap.size w w' := by
  have e3 : bits .and .u16 (x : Int) 255 = ((x % 256 : Nat) : Int) := by rw [← and255 x]; exact and16 x 255 hx (by omega)
  obtain ⟨h, hh⟩ : ∃ h : Nat, h = x / 256 := ⟨_, rfl⟩
  obtain ⟨l, hl⟩ : ∃ l : Nat, l = x % 256 := ⟨_, rfl⟩
  have e4 : (x : Int) / 256 = (h : Int) := by omega
  rw [← hl] at e3
  rw [← hh, ← hl]
  have b1 := pop8_le h (by omega)
  have b2 := pop8_le l (by omega)
  have b3 : (h : Int) ≤ 255 := by omega
  have b4 : (l : Int) ≤ 255 := by omega
  obtain ⟨p1, p2⟩ := b1
  obtain ⟨q1, q2⟩ := b2
  clear hh hl
  go_enter Try.func82, Try.ntmps82
  go_wp2
  simp only [List.append_eq, List.cons_append, List.nil_append, Lib.fold_pop8tab]
  go_quiet (fail)
  all_goals
    go_wp2
    go_ret
    exact ⟨rfl, below_drewsB _ _ _⟩
set_option maxHeartbeats 1000000 in
theorem Count_any (x : Nat) (w : World) (hx : x < 65536) : Calls Try.prog 43 #[.int .u16 x] w fun e w' => e = .returned (.int .i64 (Lib.pop8 ((x / 256 : Nat) : Int) + Lib.pop8 ((x % 256 : Nat) : Int))) ∧ Below w.heap.size w w' := by
  obtain ⟨c, hc⟩ : ∃ c, c = Lib.pop8 ((x / 256 : Nat) : Int) + Lib.pop8 ((x % 256 : Nat) : Int) := ⟨_, rfl⟩
  have ho := Ones_any x w hx
  rw [← hc] at ho ⊢
  have HO := Lib.hid ho
  clear hc ho
  go_enter Try.func43, Try.ntmps43
  go_wp2_with fail
  go_at_call 82
  refine HO.out.mono ?_
  rintro e w1 ⟨rfl, hb⟩
  go_wp2
  go_ret
  exact ⟨rfl, hb⟩
theorem andnot16 (a b : Nat) (ha : a < 65536) (hb : b < 65536) : bits .andNot .u16 (a : Int) (b : Int) = ((a &&& (65535 - b) : Nat) : Int) := by
  have ha' : a % 65536 = a := Nat.mod_eq_of_lt ha
  have hb' : b % 65536 = b := Nat.mod_eq_of_lt hb
  have h1 : a &&& (65535 - b) < 65536 := Nat.lt_of_le_of_lt Nat.and_le_left ha
  simp only [bits, BitVec.ofInt_natCast, BitVec.toNat_and, BitVec.toNat_not, BitVec.toNat_ofNat]
  rw [show 2 ^ IntKind.u16.bits = 65536 from rfl, ha', hb', show 65536 - 1 - b = 65535 - b by omega, IntKind.wrap_u16]
  omega
set_option maxHeartbeats 1000000 in
theorem Less_any (a b : Nat) (w : World) (ha : a < 65536) (hb : b < 65536) : Calls Try.prog 73 #[.int .u16 a, .int .u16 b] w fun e w' => e = .returned (.int .u16 (a &&& (65535 - b) : Nat)) ∧ w = w' := by
  have h := andnot16 a b ha hb
  obtain ⟨c, hc⟩ : ∃ c, c = a &&& (65535 - b) := ⟨_, rfl⟩
  rw [← hc] at h ⊢
  clear hc
  go_enter Try.func73, Try.ntmps73
  go_wp2
  go_ret
  exact ⟨rfl, rfl⟩
end Go.Proofs.Ytioclbkgfbjpdaa.Bs
