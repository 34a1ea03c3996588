/- Verification: the key of a table. -/
import Derived.Test.YtmihhapedpalmaaVfK
import Derived.Maps.OwnSet
import Derived.DeepKeys4
namespace Go.Proofs.Ytmihhapedpalmaa
open Go.RowKit Go.Own Go.Maps
set_option linter.unusedVariables false
set_option linter.unusedSimpArgs false
theorem kind_laid : laidOutB Try.prog = true := by kernel_rfl
theorem kind_row : (116 : TypeId) < Try.prog.types.size := of_decide_eq_true (by kernel_rfl)
theorem kind_wide : (match Try.prog.underlying 116 with | some (.array _ _) | some (.struct _) => true | _ => false) = true := by rw [Try.underlying116]
set_option maxRecDepth 100000 in
theorem kind_law : WideMaps.KeyLaw Try.prog 116 := deep_law_laid kind_laid (m := 2) (by omega) kind_row (by kernel_rfl) kind_wide
theorem kind_keyed : Keyed Try.prog 116 := Keyed.of_law kind_law
theorem wf8 : ∀ n : Nat, n < 256 → (Lit.int .u8 (n : Nat)).wf = true := by decide +kernel
theorem kind_key (s u : Nat) (hs : s < 256) (hu : u < 256) : ∃ kl, keyOf Try.prog 116 (.agg #[.int .u8 (s : Nat), .int .u8 (u : Nat)]) = some kl := by
  unfold keyOf
  rw [Try.underlying116]
  dsimp only
  rw [if_pos (by rw [show Try.prog.keyType 116 = true by kernel_rfl]; simp [Value.formed, Try.underlying116, show Try.prog.cellsOf 116 = 2 by kernel_rfl])]
  have hk : Try.prog.keyLits (Try.prog.types.size + 1) 116 (Value.agg #[.int .u8 (s : Nat), .int .u8 (u : Nat)]).cells.toList = some [.int .u8 (s : Nat), .int .u8 (u : Nat)] := by
    obtain ⟨m, hm⟩ : ∃ m, Try.prog.types.size = m + 1 := Nat.exists_eq_succ_of_ne_zero (Nat.ne_of_gt (Nat.lt_of_le_of_lt (Nat.zero_le _) kind_row))
    have c1 : Try.prog.cellsOf 116 = 2 := by kernel_rfl
    have c2 : Try.prog.cellsOf 5 = 1 := by kernel_rfl
    have w1 : (Lit.int .u8 (s : Nat)).wf = true := wf8 _ (by omega)
    have w2 : (Lit.int .u8 (u : Nat)).wf = true := wf8 _ (by omega)
    rw [hm]
    simp [Program.keyLits, Try.underlying116, Try.underlying5, c1, c2, Value.cells, w1, w2]
  rw [hk]
  exact ⟨_, rfl⟩
theorem form_zero (w : World) : (zeroValue 118).run Try.prog w = .ok (.agg #[.int .i64 0, .int .i64 0]) w := by kernel_rfl
set_option maxRecDepth 100000 in
set_option maxHeartbeats 2000000 in
theorem vJudge_nil (a s u c : Nat) (d : Value) (w : World) (hs : s < 256) (hu : u < 256) : Calls Try.prog 70 #[.map none, .agg #[.int .u8 (a : Nat), .int .u8 (s : Nat), .int .u8 (u : Nat), .int .u16 (c : Nat), d]] w fun e w' => e = .returned (.int .u8 4) ∧ Below w.heap.size w w' := by
  obtain ⟨kl, hkl⟩ := kind_key s u hs hu
  have hl := fun (w : World) => Maps.look_nil (w := w) true kind_keyed Try.underlying60 (form_zero w) hkl
  rw [if_pos rfl] at hl
  have HX := fun (w : World) => vKnown_nil s w
  go_enter Try.func70, Try.ntmps70
  go_wp2_with fail
  go_at_call 39
  refine (HX _).mono ?_
  rintro e w' ⟨rfl, hb⟩
  have HB : Below w.heap.size w w' := Below.trans (by repeat' (first | (with_reducible exact Below.refl _ _) | (with_reducible assumption) | (with_reducible refine Below.setCell ?_ ?_ _) | (with_reducible refine Below.alloc ?_ ?_ _) | (with_reducible refine Below.drew ?_) | (with_reducible refine Below.drawsN ?_ _) | go_size)) (hb.mono (by simp; try omega))
  have HB := Lib.hid HB
  clear hb
  go_wp2
  go_ret
  exact ⟨rfl, HB.out⟩
end Go.Proofs.Ytmihhapedpalmaa
