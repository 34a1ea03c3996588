/- Small lemmas on rows that the call itself has made. Of whatever program. -/
import Derived.WalkKit
import Derived.Below
namespace Go.Own
open Go.RowKit
set_option linter.unusedVariables false

theorem own_split {w : World} {base : Nat} {e : TypeId} {v : Value} {n : Nat} {xs : List Value} (h : w.ownsRow base e 1 v n xs) (hne : v = .slice none 0 0 → False) :
    ∃ g cap, v = .slice (some ⟨g, 0, none⟩) n cap ∧ base ≤ g ∧ g < w.heap.size ∧ n ≤ cap ∧ cap ≤ maxLen ∧ ∀ j, j < n → w.cell? ⟨g, 0 + j, none⟩ = xs[j]? := by
  obtain ⟨hl, h2⟩ := h
  rcases h2 with ⟨rfl, _⟩ | ⟨g, cap, cur, rfl, hg, hh, hn, hm, hs, ht⟩
  · exact (hne rfl).elim
  · refine ⟨g, cap, rfl, hg, ?_, hn, hm, fun j hj => ?_⟩
    · rcases Nat.lt_or_ge g w.heap.size with h' | h'
      · exact h'
      · rw [Array.getElem?_eq_none h'] at hh; cases hh
    · exact World.ownsRow.cellAt (w := w) (base := base) (e := e) (size := 1) (g := g) (cap := cap) (n := n) (xs := xs) ⟨hl, .inr ⟨g, cap, cur, rfl, hg, hh, hn, hm, hs, ht⟩⟩ (0 + j) (by omega) |>.trans (by rw [Nat.zero_add])

/-- The first m of a row that came in. -/
theorem take_row {k : IntKind} {w : World} {x : Addr} {zs : List Int} (hc : ∀ i, i < zs.length → w.cell? (x.add i) = some (.int k (zs.getD i 0))) (hw : ∀ n ∈ zs, (Lit.int k n).wf = true) (m : Nat) (hm : m ≤ zs.length) :
    ∃ ys : List Int, ys.length = m ∧ (∀ i, i < ys.length → w.cell? (x.add i) = some (.int k (ys.getD i 0))) ∧ (∀ n ∈ ys, (Lit.int k n).wf = true) ∧ ys = zs.take m := by
  refine ⟨zs.take m, by simp; omega, fun i hi => ?_, fun n hn => hw n (List.mem_of_mem_take hn), rfl⟩
  have h2 : i < m ∧ i < zs.length := by simp at hi; omega
  rw [hc i h2.2]
  simp [List.getD, h2.1]

theorem news_of {k : IntKind} {w w1 : World} {x : Addr} {ys : List Int} (hc : ∀ i, i < ys.length → w.cell? (x.add i) = some (.int k (ys.getD i 0))) (hb : Below w.heap.size w w1) :
    ∀ j u, (ys.map (Value.int k))[j]? = some u → w1.cell? (x.add j) = some u := by
  intro j u hj
  have hjm : j < ys.length := by
    have := (List.getElem?_eq_some_iff.1 hj).1
    simpa using this
  have h1 := hc j hjm
  have h2 : (x.add j).block < w.heap.size := World.block_lt_of_cell? w _ h1
  rw [hb.cell h2, h1]
  rw [List.getElem?_map] at hj
  simp only [List.getD, hjm, List.getElem?_eq_getElem, Option.getD_some, Option.map_some] at hj ⊢
  exact hj

theorem news_one {k : IntKind} (l : List Int) : ∀ u ∈ l.map (Value.int k), u.oneCell' = true := by
  intro u hu
  obtain ⟨x, _, rfl⟩ := List.mem_map.1 hu
  rfl

theorem cells_of {k : IntKind} {w : World} {g m : Nat} {l : List Int} (hl : l.length = m) (h : ∀ j, j < m → w.cell? ⟨g, 0 + j, none⟩ = (l.map (Value.int k))[j]?) :
    ∀ j, j < l.length → w.cell? ⟨g, 0 + j, none⟩ = some (.int k (l.getD j 0)) := by
  intro j hj
  rw [h j (by omega)]
  simp [List.getD, hj]

theorem below_grown {B : Nat} {a w w' : World} {row : Option Nat} (h : Below B a w) (hg : w.grownBy w' row) (hB : B ≤ w.heap.size) (hr : ∀ k, row = some k → B ≤ k) : Below B a w' := h.grown hg hB hr
end Go.Own
