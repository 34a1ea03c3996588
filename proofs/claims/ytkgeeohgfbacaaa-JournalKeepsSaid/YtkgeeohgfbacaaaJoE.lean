/- Layer 17: == of entries. -/
import Derived.Test.YtkgeeohgfbacaaaEqI
import Derived.ChangeKeysEq
import Derived.Laws.StructEq
namespace Go.Proofs.Ytkgeeohgfbacaaa.Je
open Go.RowKit Go.Own
set_option linter.unusedVariables false
set_option linter.unusedSimpArgs false
theorem En.ext' (x y : En) : x = y ↔ x.q = y.q ∧ x.t = y.t ∧ x.e = y.e ∧ x.g = y.g ∧ x.d = y.d := by
  cases x; cases y; simp
instance (x y : En) : Decidable (x = y) := decidable_of_iff _ (En.ext' x y).symm
theorem natint (a b : Nat) : (((a : Nat) : Int) == (b : Int)) = decide (a = b) := by
  by_cases h : a = b
  · simp [h]
  · rw [decide_eq_false h, beq_eq_false_iff_ne]; omega
set_option maxRecDepth 100000 in
theorem eqEn (x y : En) (w : World) : (Op.equalIn 10000 143 (.agg #[.int .u32 (x.q : Nat), .int .u32 (x.t : Nat), .int .u8 (x.e : Nat), .int .u8 (x.g : Nat), .int .u32 (x.d : Nat)]) (.agg #[.int .u32 (y.q : Nat), .int .u32 (y.t : Nat), .int .u8 (y.e : Nat), .int .u8 (y.g : Nat), .int .u32 (y.d : Nat)])).run Try.prog w = .ok (decide (x = y)) w := by
  go_simp
  by_cases h : x = y
  · subst h; simp
  · rw [decide_eq_false h]
    rw [En.ext'] at h
    repeat' split
    all_goals first
      | rfl
      | (exfalso; apply h; refine ⟨?_, ?_, ?_, ?_, ?_⟩ <;> omega)
set_option maxRecDepth 100000 in
theorem eqRe (x y : En) (w : World) : (Op.equalIn 10000 142 (.agg #[.int .u32 (x.q : Nat), .int .u32 (x.t : Nat), .int .u8 (x.e : Nat), .int .u8 (x.g : Nat), .int .u32 (x.d : Nat)]) (.agg #[.int .u32 (y.q : Nat), .int .u32 (y.t : Nat), .int .u8 (y.e : Nat), .int .u8 (y.g : Nat), .int .u32 (y.d : Nat)])).run Try.prog w = .ok (decide (x = y)) w := by
  go_simp
  by_cases h : x = y
  · subst h; simp
  · rw [decide_eq_false h]
    rw [En.ext'] at h
    repeat' split
    all_goals first
      | rfl
      | (exfalso; apply h; refine ⟨?_, ?_, ?_, ?_, ?_⟩ <;> omega)
theorem eqlEn (x y : En) (w : World) : (binOp .eql 143 (.agg #[.int .u32 (x.q : Nat), .int .u32 (x.t : Nat), .int .u8 (x.e : Nat), .int .u8 (x.g : Nat), .int .u32 (x.d : Nat)]) (.agg #[.int .u32 (y.q : Nat), .int .u32 (y.t : Nat), .int .u8 (y.e : Nat), .int .u8 (y.g : Nat), .int .u32 (y.d : Nat)])).run Try.prog w = .ok (.bool (decide (x = y))) w := by
  rw [run_eql_struct, eqEn]; rfl
theorem neqEn (x y : En) (w : World) : (binOp .neq 143 (.agg #[.int .u32 (x.q : Nat), .int .u32 (x.t : Nat), .int .u8 (x.e : Nat), .int .u8 (x.g : Nat), .int .u32 (x.d : Nat)]) (.agg #[.int .u32 (y.q : Nat), .int .u32 (y.t : Nat), .int .u8 (y.e : Nat), .int .u8 (y.g : Nat), .int .u32 (y.d : Nat)])).run Try.prog w = .ok (.bool (!decide (x = y))) w := by
  rw [run_neq_struct, eqEn]; rfl
theorem neqRe (x y : En) (w : World) : (binOp .neq 142 (.agg #[.int .u32 (x.q : Nat), .int .u32 (x.t : Nat), .int .u8 (x.e : Nat), .int .u8 (x.g : Nat), .int .u32 (x.d : Nat)]) (.agg #[.int .u32 (y.q : Nat), .int .u32 (y.t : Nat), .int .u8 (y.e : Nat), .int .u8 (y.g : Nat), .int .u32 (y.d : Nat)])).run Try.prog w = .ok (.bool (!decide (x = y))) w := by
  rw [run_neq_struct, eqRe]; rfl
end Go.Proofs.Ytkgeeohgfbacaaa.Je
