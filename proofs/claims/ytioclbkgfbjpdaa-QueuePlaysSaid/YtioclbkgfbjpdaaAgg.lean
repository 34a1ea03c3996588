/- A struct that came in, opened field by field. -/
import Derived.Test.YtioclbkgfbjpdaaFrame
import Derived.ChangeArms
import Derived.ChangeSlices
namespace Go.Proofs.Ytioclbkgfbjpdaa
open Go.ChangeShapes Go.WideShapes Go.ChangeAt Go.RowKit
set_option linter.unusedVariables false

section
variable {H : Type} {enc : TypeId × Value → H} {P : Program} {w : World} {base : Nat} {spare : Nat → Bool} {held : Bool}
theorem open_agg {r : Reach} {b : Nat} {t : TypeId} {fs : Array Field} {v : Value} {d : DataW H} {ps : List MemPlace} {n : Nat} (ht : P.underlying t = some (.struct fs)) (hn : P.cellsOf t = n) (hv : Value.okWide P w r b t v) (h : DataW.Trod enc P w base spare held t v d ps) :
    ∃ cs : Array Value, v = .agg cs ∧ cs.size = n ∧ ∀ (i : Nat) (f : Field) (o : Nat), fs[i]? = some f → f.offset = o → P.cellsOf f.type = 1 → o < n → ∃ u x m, cs[o]? = some u ∧ DataW.trod enc P w base spare held m f.type [u] = some x := by
  unfold Value.okWide at hv
  rw [ht] at hv
  obtain ⟨cs, rfl, hs, _⟩ := hv
  rw [hn] at hs
  obtain ⟨fuel, hf⟩ := h
  obtain ⟨xs, m, rfl, _, _, hx, hel⟩ := DataW.trod_struct ht hf
  refine ⟨cs, rfl, hs, fun i f o hi ho hc hlt => ?_⟩
  subst ho
  have h1 := hel i f hi
  have hil : i < fs.size := (Array.getElem?_eq_some_iff.1 hi).1
  have hy : xs[i]? = some (xs[i]'(by omega)) := List.getElem?_eq_getElem (by omega)
  rw [hc, hy] at h1
  simp only [Value.cells] at h1
  have hd : (cs.toList.drop f.offset).take 1 = [cs.toList[f.offset]'(by simpa using (by omega : f.offset < cs.size))] := by
    rw [List.drop_eq_getElem_cons (by simpa using (by omega : f.offset < cs.size))]; rfl
  rw [hd] at h1
  exact ⟨_, _, _, by rw [Array.getElem?_eq_getElem (by omega)]; simp, h1⟩
theorem agg_eq {cs : Array Value} {l : List Value} (hs : cs.size = l.length) (h : ∀ i, i < l.length → cs[i]? = l[i]?) : cs = l.toArray := by
  apply Array.ext_getElem?
  intro i
  by_cases hi : i < l.length
  · rw [h i hi]; simp
  · rw [Array.getElem?_eq_none (by omega), Array.getElem?_eq_none (by simp; omega)]
theorem isRow_field {t e : TypeId} {k : IntKind} {u : Value} {m : Nat} {x : DataW H × List MemPlace}
    (ht : P.underlying t = some (.slice e)) (he : P.underlying e = some (.int k)) (hc : P.cellsOf e = 1)
    (h : DataW.trod enc P w 0 (fun _ => true) true m t [u] = some x) : ∃ a len cap zs, u = .slice a len cap ∧ IsRow k w a len cap zs := by
  rcases open_ints ht he hc h with ⟨hcs, _⟩ | ⟨x, l, c, zs, hcs, _, hl, hm, hz, _, hcell, hwz⟩
  · simp at hcs
    exact ⟨none, 0, 0, [], hcs, .inl ⟨rfl, rfl, rfl, rfl⟩⟩
  · simp at hcs
    exact ⟨some x, l, c, zs, hcs, .inr ⟨_, rfl, hl, hm, by simpa using hz, hcell, hwz⟩⟩
end
end Go.Proofs.Ytioclbkgfbjpdaa
