/- Sets of units: Next, First, Less, And. -/
import Derived.Test.YtinaimacocgemaaBs
namespace Go.Proofs.Ytinaimacocgemaa.Bs
open Go.RowKit Go.Own
set_option linter.unusedVariables false
set_option linter.unusedSimpArgs false
def has (s : Nat) (j : Nat) : Bool := decide (s &&& bit1 (j : Nat) ≠ 0)
/-- The first one from i on; none: -1. -/
def NextIs (s i : Nat) (r : Int) : Prop := (r = -1 ∧ ∀ j, i ≤ j → j < 16 → has s j = false) ∨ ∃ j : Nat, r = (j : Int) ∧ i ≤ j ∧ j < 16 ∧ has s j = true ∧ ∀ k, i ≤ k → k < j → has s k = false
theorem run_maxJ {P : Program} (ats : Array TypeId) (ty : TypeId) (k : IntKind) (a b : Int) (w : World) : (Builtin.max_ ats ty #[.int k a, .int k b]).run P w = .ok (.int k (max a b)) w := by
  have e2 : (Builtin.max2 (.int k a) (.int k b)).run P w = .ok (.int k (max a b)) w := by
    unfold Builtin.max2
    by_cases h : a < b
    · have e : max a b = b := by omega
      simp [e, h]
    · have e : max a b = a := by omega
      simp [e, h]
  simp [Builtin.max_, e2]
end Go.Proofs.Ytinaimacocgemaa.Bs
