/- Which rows and boxes a write leaves as they are. Of whatever program. -/
import Derived.WalkKit
import Derived.Below
import Derived.Laws.AppendOwn
import Derived.Laws.OwnMore
namespace Go.Own
open Go.RowKit
set_option linter.unusedVariables false

section
variable {w w' : World} {base base' : Nat} {e e' t : TypeId} {size size' : Nat} {v v' : Value} {n n' : Nat} {xs xs' : List Value} {g B : Nat} {cs : Array Value}
theorem own_heap (h : w.ownsRow base e size v n xs) (hv : v.ownBlock = some g) : ∃ cur, w.heap[g]? = some (.cells cur e (0, 0)) := by
  rcases h.2 with ⟨rfl, _⟩ | ⟨g', cap, cur, rfl, _, hg, _⟩
  · simp [Value.ownBlock] at hv
  · simp [Value.ownBlock] at hv
    subst hv
    exact ⟨cur, hg⟩
/-- Rows of unlike element types lie in unlike blocks. -/
theorem own_apart (h : w.ownsRow base e size v n xs) (h' : w.ownsRow base' e' size' v' n' xs') (hne : e ≠ e') : v.ownBlock = none ∨ v.ownBlock ≠ v'.ownBlock := by
  cases hv : v.ownBlock with
  | none => exact .inl rfl
  | some g =>
    refine .inr fun hh => ?_
    obtain ⟨c1, h1⟩ := own_heap h hv
    obtain ⟨c2, h2⟩ := own_heap h' hh.symm
    rw [h1] at h2
    injection h2 with h2
    injection h2 with _ h2
    exact hne h2
theorem box_apart (hb : w.heap[B]? = some (.cells cs t (0, 0))) (h : w.ownsRow base e size v n xs) (hne : t ≠ e) : some B ≠ v.ownBlock := by
  intro hh
  obtain ⟨c1, h1⟩ := own_heap h hh.symm
  rw [hb] at h1
  injection h1 with h1
  injection h1 with _ h1
  exact hne h1
theorem box_lt (hb : w.heap[B]? = some (.cells cs t (0, 0))) : B < w.heap.size := (Array.getElem?_eq_some_iff.1 hb).1
theorem box_kept {row : Option Nat} (hb : w.heap[B]? = some (.cells cs t (0, 0))) (hg : w.grownBy w' row) (hne : some B ≠ row) : w'.heap[B]? = some (.cells cs t (0, 0)) := (hg.block B (box_lt hb) hne).trans hb
theorem box_below {k : Nat} (hb : w.heap[B]? = some (.cells cs t (0, 0))) (h : Below k w w') (hk : B < k) : w'.heap[B]? = some (.cells cs t (0, 0)) := (h.block B hk).trans hb
theorem box_cell {u : Value} (hb : w.heap[B]? = some (.cells #[u] t (0, 0))) : w.cell? ⟨B, 0, none⟩ = some u := cell_of_row w B 0 _ _ _ hb
theorem box_frozen {u : Value} (hb : w.heap[B]? = some (.cells #[u] t (0, 0))) : w.frozen? ⟨B, 0, none⟩ = false := frozen_of_row w B 0 _ _ hb
theorem box_set {u : Value} (hb : w.heap[B]? = some (.cells #[u] t (0, 0))) (u' : Value) : (w.setCell ⟨B, 0, none⟩ u').heap[B]? = some (.cells #[u'] t (0, 0)) := heap_setCell_same w B 0 _ _ u' hb
theorem grown_set (w : World) (a : Addr) (u : Value) : w.grownBy (w.setCell a u) (some a.block) :=
  ⟨rfl, rfl, rfl, by simp, fun k _ hk => heap_setCell_other w a k u (fun e => hk (by simp [e]))⟩
theorem grown_drew {row : Option Nat} (hg : w.grownBy w' row) : w.grownBy w'.drew row := ⟨hg.os, hg.tape, hg.output, hg.size, hg.block⟩
theorem own_below {k : Nat} (h : w.ownsRow base e size v n xs) (hb : Below k w w') (hk : w.heap.size ≤ k) : w'.ownsRow base e size v n xs := by
  obtain ⟨h1, h2 | ⟨g, cap, cur, hv, hg, hr, ho⟩⟩ := h
  · exact ⟨h1, .inl h2⟩
  · exact ⟨h1, .inr ⟨g, cap, cur, hv, hg, (hb.block g (Nat.lt_of_lt_of_le (Array.getElem?_eq_some_iff.1 hr).1 hk)).trans hr, ho⟩⟩
end
end Go.Own
