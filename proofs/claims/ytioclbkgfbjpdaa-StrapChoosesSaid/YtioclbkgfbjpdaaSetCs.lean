/- Structs that are stored into the middle of a block. Of whatever program. -/
import Derived.WalkKit
import Derived.Below
import Derived.Deep.MidRow
namespace Go.SetCs
open Go.RowKit
set_option linter.unusedVariables false
def arrSets (C : Array Value) : Nat → List Value → Array Value
  | _, [] => C
  | o, v :: vs => arrSets (C.setIfInBounds o v) (o + 1) vs
theorem arrSets_size : ∀ (vs : List Value) (o : Nat) (C : Array Value), (arrSets C o vs).size = C.size
  | [], _, _ => rfl
  | v :: vs, o, C => by rw [arrSets, arrSets_size vs, Array.size_setIfInBounds]
theorem arrSets_out : ∀ (vs : List Value) (o : Nat) (C : Array Value) (k : Nat), (k < o ∨ o + vs.length ≤ k) → (arrSets C o vs)[k]? = C[k]?
  | [], _, _, _, _ => rfl
  | v :: vs, o, C, k, h => by
    rw [arrSets, arrSets_out vs (o + 1) _ k (by simp only [List.length_cons] at h; omega), Array.getElem?_setIfInBounds_ne (by simp only [List.length_cons] at h; omega)]
theorem arrSets_in : ∀ (vs : List Value) (o : Nat) (C : Array Value) (j : Nat) (v : Value), o + vs.length ≤ C.size → vs[j]? = some v → (arrSets C o vs)[o + j]? = some v
  | [], _, _, _, _, _, h => by cases h
  | x :: vs, o, C, 0, v, hs, h => by
    obtain rfl : x = v := by simpa using h
    simp only [List.length_cons] at hs
    rw [arrSets, arrSets_out vs (o + 1) _ (o + 0) (by omega), Nat.add_zero, Array.getElem?_setIfInBounds_self_of_lt (by omega)]
  | x :: vs, o, C, j + 1, v, hs, h => by
    simp only [List.length_cons] at hs
    have := arrSets_in vs (o + 1) (C.setIfInBounds o x) j v (by rw [Array.size_setIfInBounds]; omega) (by simpa using h)
    rw [arrSets, show o + (j + 1) = o + 1 + j by omega]
    exact this
theorem heap_setCells : ∀ (vs : List Value) (o : Nat) (w : World) (g : Nat) (C : Array Value) (t : TypeId), w.heap[g]? = some (.cells C t (0, 0)) → (w.setCells g o vs).heap[g]? = some (.cells (arrSets C o vs) t (0, 0))
  | [], _, _, _, _, _, h => h
  | v :: vs, o, w, g, C, t, h => heap_setCells vs (o + 1) _ g _ t (heap_setCell_same w g o _ _ v h)
theorem heap_setCells_other : ∀ (vs : List Value) (o : Nat) (w : World) (g f : Nat), f ≠ g → (w.setCells g o vs).heap[f]? = w.heap[f]?
  | [], _, _, _, _, _ => rfl
  | v :: vs, o, w, g, f, h => (heap_setCells_other vs (o + 1) _ g f h).trans (heap_setCell_other w ⟨g, o, .none⟩ f v h)
theorem below_setCells {B : Nat} {w : World} : ∀ (vs : List Value) (o : Nat) (w' : World) (g : Nat), B ≤ g → Below B w w' → Below B w (w'.setCells g o vs)
  | [], _, _, _, _, h => h
  | v :: vs, o, w', g, hg, h => below_setCells vs (o + 1) _ g hg (h.setCell (p := ⟨g, o, .none⟩) hg v)
end Go.SetCs
