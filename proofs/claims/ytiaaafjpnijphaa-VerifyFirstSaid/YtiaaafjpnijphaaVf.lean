/- Verification: what is told of a verdict (no maps). -/
import Derived.Test.YtiaaafjpnijphaaPs3
namespace Go.Proofs.Ytiaaafjpnijphaa
open Go.RowKit Go.Own
set_option linter.unusedVariables false
set_option linter.unusedSimpArgs false
theorem bit0 : ∀ a : Nat, a < 256 → a &&& 1 = a % 2 := by decide +kernel
theorem bit3 : ∀ a : Nat, a < 256 → a &&& 8 = 8 * (a / 8 % 2) := by decide +kernel
theorem lay_id (i : Nat) : flat (fun j => lay1 (([4] : List Int).getD j 0) (nth (fun n => ([i] : List Nat).getD n 0) 1 j)) 1 = numB i 4 := by
  simp [flat, List.range_succ, lay1, nth]
theorem lay_idk (i k : Nat) (hk : k < 256) : flat (fun j => lay1 (([4, 1] : List Int).getD j 0) (nth (fun n => ([i, k] : List Nat).getD n 0) 2 j)) 2 = numB i 4 ++ [k] := by
  simp [flat, List.range_succ, lay1, nth, numB]
  omega
/-- The data of a report on a verdict. -/
def vData (i k : Nat) : List Nat := if k = 0 then numB i 4 else numB i 4 ++ [k]
/-- The sub of a report on a verdict. -/
def vSub (k g b : Nat) : Nat := if k = 0 then g else b
/- #1 the sizes' row, #2 the numbers' row, #3 how many, #4 sizes, #5 numbers -/
end Go.Proofs.Ytiaaafjpnijphaa
