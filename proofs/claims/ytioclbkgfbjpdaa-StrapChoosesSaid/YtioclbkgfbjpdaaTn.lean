/- Layer 20: what a turn is; the small functions. -/
import Derived.Test.YtioclbkgfbjpdaaSw4
import Derived.Test.YtioclbkgfbjpdaaSetA
import Derived.Test.YtioclbkgfbjpdaaBs3
import Derived.Deep.MidRow
namespace Go.Proofs.Ytioclbkgfbjpdaa
open Go.RowKit Go.Own Bs
set_option linter.unusedVariables false
set_option linter.unusedSimpArgs false
theorem size_cr : (Try.prog.info? 75).map (·.size) = some 6 := by kernel_rfl
section
variable {P : Program}
theorem range_of_row {w : World} {g o : Nat} {cs : Array Value} {t : TypeId} (h : w.heap[g]? = some (.cells cs t (0, 0))) (l : List Value) (hl : ∀ j v, l[j]? = some v → cs[o + j]? = some v) : w.rangeAt g o l := fun j v hj => (cell_of_row _ g (o + j) _ _ _ h).trans (hl j v hj)
end
theorem rgF {w : World} {g : Nat} {p : Int} {f t : Nat → Int} {q : TypeId} (h : w.heap[g]? = some (.cells #[.int .u8 p, .int .i8 (f 0), .int .i8 (f 1), .int .i8 (f 2), .int .i8 (f 3), .int .i8 (f 4), .int .i8 (f 5), .int .i8 (t 0), .int .i8 (t 1), .int .i8 (t 2), .int .i8 (t 3), .int .i8 (t 4), .int .i8 (t 5)] q (0, 0))) : w.rangeAt g 1 [.int .i8 (f 0), .int .i8 (f 1), .int .i8 (f 2), .int .i8 (f 3), .int .i8 (f 4), .int .i8 (f 5)] := range_of_row h _ (fun j v hj => by
    match j, hj with
    | 0, h | 1, h | 2, h | 3, h | 4, h | 5, h => exact h
    | n + 6, h => simp at h)
theorem rgT {w : World} {g : Nat} {p : Int} {f t : Nat → Int} {q : TypeId} (h : w.heap[g]? = some (.cells #[.int .u8 p, .int .i8 (f 0), .int .i8 (f 1), .int .i8 (f 2), .int .i8 (f 3), .int .i8 (f 4), .int .i8 (f 5), .int .i8 (t 0), .int .i8 (t 1), .int .i8 (t 2), .int .i8 (t 3), .int .i8 (t 4), .int .i8 (t 5)] q (0, 0))) : w.rangeAt g 7 [.int .i8 (t 0), .int .i8 (t 1), .int .i8 (t 2), .int .i8 (t 3), .int .i8 (t 4), .int .i8 (t 5)] := range_of_row h _ (fun j v hj => by
    match j, hj with
    | 0, h | 1, h | 2, h | 3, h | 4, h | 5, h => exact h
    | n + 6, h => simp at h)
theorem ldTp {w : World} {g : Nat} {p : Int} {f t : Nat → Int} {q : TypeId} (h : w.heap[g]? = some (.cells #[.int .u8 p, .int .i8 (f 0), .int .i8 (f 1), .int .i8 (f 2), .int .i8 (f 3), .int .i8 (f 4), .int .i8 (f 5), .int .i8 (t 0), .int .i8 (t 1), .int .i8 (t 2), .int .i8 (t 3), .int .i8 (t 4), .int .i8 (t 5)] q (0, 0))) : w.cell? ⟨g, 0, none⟩ = some (.int .u8 p) := cell_of_row _ g 0 _ _ _ h
/-- The chain in use. -/
def actC (p : Int) (f t : Nat → Int) : Nat → Int := if p = 1 ∨ p = 2 then f else t
end Go.Proofs.Ytioclbkgfbjpdaa
