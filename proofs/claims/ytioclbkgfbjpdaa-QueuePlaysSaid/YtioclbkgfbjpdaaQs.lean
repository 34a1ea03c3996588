/- Layer 11: the law's same. -/
import Derived.Test.YtioclbkgfbjpdaaQr3
namespace Go.Proofs.Ytioclbkgfbjpdaa
open Go.RowKit Go.Own
set_option linter.unusedVariables false
set_option linter.unusedSimpArgs false
/-- Alike but for where the data lie. -/
def Alk (x y : Rq) : Prop := x.s = y.s ∧ x.u = y.u ∧ x.c = y.c ∧ x.t = y.t ∧ x.d = y.d
/-- Two lists, element by element. -/
def AlkL (L M : List Rq) : Prop := L.length = M.length ∧ ∀ i, i < L.length → Alk (L.getD i rq0) (M.getD i rq0)
theorem AlkL.nil : AlkL [] [] := ⟨rfl, fun i hi => absurd hi (by simp)⟩
theorem AlkL.snoc {L M : List Rq} {x y : Rq} (h : AlkL L M) (hx : Alk x y) : AlkL (L ++ [x]) (M ++ [y]) := by
  refine ⟨by simp [h.1], fun i hi => ?_⟩
  by_cases e : i < L.length
  · have h1 := h.2 i e
    have e2 : i < M.length := by rw [← h.1]; exact e
    simpa [List.getD, List.getElem?_append_left e, List.getElem?_append_left e2] using h1
  · have e1 : i = L.length := by simp at hi; omega
    have e2 : i = M.length := by rw [← h.1]; exact e1
    have g1 : (L ++ [x]).getD i rq0 = x := by simp [List.getD, e1]
    have g2 : (M ++ [y]).getD i rq0 = y := by simp [List.getD, e2]
    rw [g1, g2]
    exact hx
theorem AlkL.drop {L M : List Rq} (h : AlkL L M) (m : Nat) : AlkL (L.drop m) (M.drop m) := by
  refine ⟨by simp [h.1], fun i hi => ?_⟩
  have hi' : m + i < L.length := by simp at hi; omega
  simpa [List.getD] using h.2 (m + i) hi'
theorem AlkL.take {L M : List Rq} (h : AlkL L M) (m : Nat) : AlkL (L.take m) (M.take m) := by
  refine ⟨by simp [h.1], fun i hi => ?_⟩
  have hi' : i < m ∧ i < L.length := by simp at hi; omega
  have h1 := h.2 i hi'.2
  simpa [List.getD, hi'.1] using h1
theorem alk_put {s u t cnt : Nat} {l : List Nat} {x y : Rq} (h1 : PutIs s u t cnt l x) (h2 : PutIs s u t cnt l y) : Alk x y := ⟨h1.s.trans h2.s.symm, h1.u.trans h2.u.symm, h1.c.trans h2.c.symm, h1.t.trans h2.t.symm, h1.d.trans h2.d.symm⟩
end Go.Proofs.Ytioclbkgfbjpdaa
