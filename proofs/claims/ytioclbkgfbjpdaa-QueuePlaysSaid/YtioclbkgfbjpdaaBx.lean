/- Boxes that a call made, one behind the other. -/
import Derived.Test.YtioclbkgfbjpdaaKeep
import Derived.WalkKit
import Derived.Below
import Derived.Handy
import Derived.Laws.ResultCell
import Derived.Deep.WholeRow
import Derived.Deep.QuietTactic
namespace Go.Proofs.Ytioclbkgfbjpdaa
open Go.RowKit Go.Own
set_option linter.unusedVariables false
set_option linter.unusedSimpArgs false
theorem bel_rowX {B g : Nat} {w w' : World} (h : Below B w w') (hg : B ≤ g) (cs : Array Value) : Below B w (w'.setRow g cs) :=
  ⟨h.os, h.tape, h.output, by simpa [World.setRow] using h.size, fun i hi => (setRow_other _ g i _ (by omega)).trans (h.block i hi)⟩
/-- Boxes that a call made, one behind the other. -/
structure Bxs (w wr : World) (bs : List (Array Value × TypeId)) : Prop where
  be : Below w.heap.size w wr
  at_ : ∀ i A t, bs[i]? = some (A, t) → wr.heap[w.heap.size + i]? = some (.cells A t (0, 0))
theorem Bxs.nil (w : World) : Bxs w w [] := ⟨Below.refl _ _, by simp⟩
theorem Bxs.step {w wr w' : World} {bs : List (Array Value × TypeId)} (h : Bxs w wr bs) (hb : Below wr.heap.size wr w') : Bxs w w' bs :=
  ⟨h.be.trans (hb.mono h.be.size), fun i A t hi => have := h.at_ i A t hi; box_below this hb (box_lt this)⟩
theorem Bxs.add {w wr : World} {bs : List (Array Value × TypeId)} (h : Bxs w wr bs) (hs : wr.heap.size = w.heap.size + bs.length) (A : Array Value) (t : TypeId) : Bxs w (wr.alloc (.cells A t)) (bs ++ [(A, t)]) :=
  ⟨h.be.alloc (by have := h.be.size; omega) _, fun i B u hi => by
    rcases Nat.lt_or_ge i bs.length with hl | hl
    · rw [List.getElem?_append_left hl] at hi
      have := h.at_ i B u hi
      exact (Below.heap_alloc _ _ _ (box_lt this)).trans this
    · rw [List.getElem?_append_right hl] at hi
      have e : i = bs.length := by
        rcases Nat.lt_or_ge (i - bs.length) 1 with h1 | h1
        · omega
        · rw [List.getElem?_eq_none (by simpa using h1)] at hi; exact absurd hi (by simp)
      subst e
      simp at hi
      obtain ⟨rfl, rfl⟩ := hi
      rw [← hs]
      exact heap_alloc_new wr _⟩
theorem Bxs.put {w wr : World} {bs : List (Array Value × TypeId)} (h : Bxs w wr bs) (i : Nat) {A : Array Value} {t : TypeId} (hi : bs[i]? = some (A, t)) (B : Array Value) : Bxs w (wr.setRow (w.heap.size + i) B) (bs.set i (B, t)) :=
  ⟨bel_rowX h.be (by omega) B, fun j C u hj => by
    by_cases e : i = j
    · subst e
      rw [List.getElem?_set_self (List.getElem?_eq_some_iff.1 hi).1] at hj
      simp at hj
      obtain ⟨rfl, rfl⟩ := hj
      exact setRow_heap _ _ _ _ _ _ (h.at_ i A _ hi)
    · rw [List.getElem?_set_ne e] at hj
      exact (setRow_other _ _ _ _ (by omega)).trans (h.at_ j C u hj)⟩
theorem Bxs.set {w wr : World} {bs : List (Array Value × TypeId)} (h : Bxs w wr bs) (i : Nat) {A : Array Value} {t : TypeId} (hi : bs[i]? = some (A, t)) (k : Nat) (v : Value) : Bxs w (wr.setCell ⟨w.heap.size + i, k, none⟩ v) (bs.set i (A.setIfInBounds k v, t)) :=
  ⟨Below.setCell h.be (by show w.heap.size ≤ w.heap.size + i; omega) _, fun j C u hj => by
    by_cases e : i = j
    · subst e
      rw [List.getElem?_set_self (List.getElem?_eq_some_iff.1 hi).1] at hj
      simp at hj
      obtain ⟨rfl, rfl⟩ := hj
      exact heap_setCell_same _ _ _ _ _ _ (h.at_ i A _ hi)
    · rw [List.getElem?_set_ne e] at hj
      exact (heap_setCell_other _ _ _ _ (by show w.heap.size + j ≠ w.heap.size + i; omega)).trans (h.at_ j C u hj)⟩
theorem Bxs.four (w : World) (A B C D : Array Value) (t u v x : TypeId) : Bxs w ((((w.alloc (.cells A t)).alloc (.cells B u)).alloc (.cells C v)).alloc (.cells D x)) [(A, t), (B, u), (C, v), (D, x)] :=
  ((((Bxs.nil w).add rfl A t).add (by simp) B u).add (by simp) C v).add (by simp) D x
theorem bel_drewV (w : World) (n : Nat) : Below w.heap.size w (w.drewN n) := ⟨rfl, rfl, rfl, Nat.le_refl _, fun _ _ => rfl⟩
/-- Boxes, wherever they lie. -/
structure Bq (w wr : World) (bs : List (Nat × Array Value × TypeId)) : Prop where
  be : Below w.heap.size w wr
  al : ∀ x ∈ bs, wr.heap[x.1]? = some (.cells x.2.1 x.2.2 (0, 0))
  lo : ∀ x ∈ bs, w.heap.size ≤ x.1
  nd : (bs.map (·.1)).Nodup
theorem Bq.nil (w : World) : Bq w w [] := ⟨Below.refl _ _, by simp, by simp, by simp⟩
theorem Bq.of {w wr : World} {bs : List (Nat × Array Value × TypeId)} (h : Bq w wr bs) (i : Nat) {g : Nat} {A : Array Value} {t : TypeId} (hi : bs[i]? = some (g, A, t)) : wr.heap[g]? = some (.cells A t (0, 0)) :=
  h.al (g, A, t) (List.mem_of_getElem? hi)
theorem Bq.low {w wr : World} {bs : List (Nat × Array Value × TypeId)} (h : Bq w wr bs) (i : Nat) {g : Nat} {A : Array Value} {t : TypeId} (hi : bs[i]? = some (g, A, t)) : w.heap.size ≤ g :=
  h.lo (g, A, t) (List.mem_of_getElem? hi)
theorem Bq.step {w wr w' : World} {bs : List (Nat × Array Value × TypeId)} (h : Bq w wr bs) (hb : Below wr.heap.size wr w') : Bq w w' bs :=
  ⟨h.be.trans (hb.mono h.be.size), fun x hx => box_below (h.al x hx) hb (box_lt (h.al x hx)), h.lo, h.nd⟩
theorem Bq.new {w wr : World} {bs : List (Nat × Array Value × TypeId)} (h : Bq w wr bs) (A : Array Value) (t : TypeId) : Bq w (wr.alloc (.cells A t)) (bs ++ [(wr.heap.size, A, t)]) :=
  ⟨h.be.alloc h.be.size _, fun x hx => by
    rcases List.mem_append.1 hx with hx | hx
    · exact (Below.heap_alloc _ _ _ (box_lt (h.al x hx))).trans (h.al x hx)
    · rw [List.mem_singleton.1 hx]; exact heap_alloc_new wr _, fun x hx => by
    rcases List.mem_append.1 hx with hx | hx
    · exact h.lo x hx
    · rw [List.mem_singleton.1 hx]; exact h.be.size, by
    rw [List.map_append, List.nodup_append]
    refine ⟨h.nd, by simp, fun a ha b hb => ?_⟩
    obtain ⟨x, hx, rfl⟩ := List.mem_map.1 ha
    simp at hb
    subst hb
    exact Nat.ne_of_lt (box_lt (h.al x hx))⟩
theorem Bq.more {w wr : World} {bs : List (Nat × Array Value × TypeId)} (h : Bq w wr bs) {g : Nat} {A : Array Value} {t : TypeId} (hn : ∀ x ∈ bs, x.1 ≠ g) (hl : w.heap.size ≤ g) (hh : wr.heap[g]? = some (.cells A t (0, 0))) : Bq w wr (bs ++ [(g, A, t)]) :=
  ⟨h.be, fun x hx => by
    rcases List.mem_append.1 hx with hx | hx
    · exact h.al x hx
    · rw [List.mem_singleton.1 hx]; exact hh, fun x hx => by
    rcases List.mem_append.1 hx with hx | hx
    · exact h.lo x hx
    · rw [List.mem_singleton.1 hx]; exact hl, by
    rw [List.map_append, List.nodup_append]
    refine ⟨h.nd, by simp, fun a ha b hb => ?_⟩
    obtain ⟨x, hx, rfl⟩ := List.mem_map.1 ha
    simp at hb
    subst hb
    exact hn x hx⟩
theorem Bq.lt {w wr : World} {bs : List (Nat × Array Value × TypeId)} (h : Bq w wr bs) : ∀ x ∈ bs, x.1 < wr.heap.size := fun x hx => box_lt (h.al x hx)
/-- What is changed at one place of a list with keys. -/
theorem keys_set {bs : List (Nat × Array Value × TypeId)} {i g : Nat} {A B : Array Value} {t : TypeId} (hi : bs[i]? = some (g, A, t)) : (bs.set i (g, B, t)).map (·.1) = bs.map (·.1) := by
  rw [List.map_set]
  apply List.ext_getElem?
  intro j
  by_cases e : i = j
  · subst e
    rw [List.getElem?_set_self (by rw [List.length_map]; exact (List.getElem?_eq_some_iff.1 hi).1), List.getElem?_map, hi]; rfl
  · rw [List.getElem?_set_ne e]
theorem mem_set {bs : List (Nat × Array Value × TypeId)} {i g : Nat} {A B : Array Value} {t : TypeId} (hi : bs[i]? = some (g, A, t)) (hnd : (bs.map (·.1)).Nodup) {x : Nat × Array Value × TypeId} (hx : x ∈ bs.set i (g, B, t)) : x = (g, B, t) ∨ (x ∈ bs ∧ x.1 ≠ g) := by
  obtain ⟨j, hj⟩ := List.mem_iff_getElem?.1 hx
  by_cases e : i = j
  · subst e
    rw [List.getElem?_set_self (List.getElem?_eq_some_iff.1 hi).1] at hj
    exact .inl (by simpa using hj.symm)
  · rw [List.getElem?_set_ne e] at hj
    refine .inr ⟨List.mem_of_getElem? hj, fun hg => e ?_⟩
    have h1 : (bs.map (·.1))[i]? = some g := by rw [List.getElem?_map, hi]; rfl
    have h2 : (bs.map (·.1))[j]? = some g := by rw [List.getElem?_map, hj]; simp [hg]
    exact (List.getElem?_inj (List.getElem?_eq_some_iff.1 h1).1 hnd).1 (h1.trans h2.symm)
theorem Bq.put {w wr : World} {bs : List (Nat × Array Value × TypeId)} (h : Bq w wr bs) (i : Nat) {g : Nat} {A : Array Value} {t : TypeId} (hi : bs[i]? = some (g, A, t)) (B : Array Value) : Bq w (wr.setRow g B) (bs.set i (g, B, t)) :=
  ⟨bel_rowX h.be (h.low i hi) B, fun x hx => by
    rcases mem_set hi h.nd hx with rfl | ⟨hm, hne⟩
    · exact setRow_heap _ _ _ _ _ _ (h.of i hi)
    · exact (setRow_other _ _ _ _ hne).trans (h.al x hm), fun x hx => by
    rcases mem_set hi h.nd hx with rfl | ⟨hm, _⟩
    · exact h.low i hi
    · exact h.lo x hm, by rw [keys_set hi]; exact h.nd⟩
theorem Bq.set {w wr : World} {bs : List (Nat × Array Value × TypeId)} (h : Bq w wr bs) (i : Nat) {g : Nat} {A : Array Value} {t : TypeId} (hi : bs[i]? = some (g, A, t)) (k : Nat) (v : Value) : Bq w (wr.setCell ⟨g, k, none⟩ v) (bs.set i (g, A.setIfInBounds k v, t)) :=
  ⟨Below.setCell h.be (by show w.heap.size ≤ g; exact h.low i hi) _, fun x hx => by
    rcases mem_set hi h.nd hx with rfl | ⟨hm, hne⟩
    · exact heap_setCell_same _ _ _ _ _ _ (h.of i hi)
    · exact (heap_setCell_other _ _ _ _ (by show x.1 ≠ g; exact hne)).trans (h.al x hm), fun x hx => by
    rcases mem_set hi h.nd hx with rfl | ⟨hm, _⟩
    · exact h.low i hi
    · exact h.lo x hm, by rw [keys_set hi]; exact h.nd⟩
/-- Some of the boxes: the first ones. -/
theorem Bq.front {w wr : World} {bs cs : List (Nat × Array Value × TypeId)} (h : Bq w wr (bs ++ cs)) : Bq w wr bs :=
  ⟨h.be, fun x hx => h.al x (List.mem_append_left _ hx), fun x hx => h.lo x (List.mem_append_left _ hx), by
    have := h.nd
    rw [List.map_append, List.nodup_append] at this
    exact this.1⟩
/-- Two new boxes, and what is stored in them. -/
theorem Bq.pair {w wr : World} {bs : List (Nat × Array Value × TypeId)} (h : Bq w wr bs) (A0 B0 A B : Array Value) (t u : TypeId) :
    Bq w ((((wr.alloc (.cells A0 t)).alloc (.cells B0 u)).setRow wr.heap.size A).setRow (wr.heap.size + 1) B) (bs ++ [(wr.heap.size, A, t), (wr.heap.size + 1, B, u)]) ∧ ((wr.alloc (.cells A0 t)).alloc (.cells B0 u)).heap[wr.heap.size]? = some (.cells A0 t (0, 0)) ∧ (((wr.alloc (.cells A0 t)).alloc (.cells B0 u)).setRow wr.heap.size A).heap[wr.heap.size + 1]? = some (.cells B0 u (0, 0)) := by
  have h2 := (h.new A0 t).new B0 u
  rw [show (wr.alloc (.cells A0 t)).heap.size = wr.heap.size + 1 by simp, List.append_assoc] at h2
  have e1 : (bs ++ ([(wr.heap.size, A0, t)] ++ [(wr.heap.size + 1, B0, u)]))[bs.length]? = some (wr.heap.size, A0, t) := by rw [List.getElem?_append_right (Nat.le_refl _)]; simp
  have h3 := h2.put bs.length e1 A
  have l3 : (bs ++ ([(wr.heap.size, A0, t)] ++ [(wr.heap.size + 1, B0, u)])).set bs.length (wr.heap.size, A, t) = bs ++ [(wr.heap.size, A, t), (wr.heap.size + 1, B0, u)] := by
    rw [List.set_append_right _ _ (Nat.le_refl _)]; simp
  rw [l3] at h3
  have e2 : (bs ++ [(wr.heap.size, A, t), (wr.heap.size + 1, B0, u)])[bs.length + 1]? = some (wr.heap.size + 1, B0, u) := by rw [List.getElem?_append_right (by omega)]; simp
  have h4 := h3.put (bs.length + 1) e2 B
  have l4 : (bs ++ [(wr.heap.size, A, t), (wr.heap.size + 1, B0, u)]).set (bs.length + 1) (wr.heap.size + 1, B, u) = bs ++ [(wr.heap.size, A, t), (wr.heap.size + 1, B, u)] := by
    rw [List.set_append_right _ _ (by omega)]; simp
  rw [l4] at h4
  exact ⟨h4, h2.of _ e1, h3.of _ e2⟩
/-- Two boxes that came besides, in whatever order. -/
theorem Bq.two {w wr wc : World} {bs : List (Nat × Array Value × TypeId)} (h : Bq w wr bs) (hb : Below wr.heap.size wr wc) {g k : Nat} (hg : wr.heap.size ≤ g) (hk : wr.heap.size ≤ k) (hne : k ≠ g) {A0 B0 : Array Value} {t u : TypeId} (h1 : wc.heap[g]? = some (.cells A0 t (0, 0))) (h2 : wc.heap[k]? = some (.cells B0 u (0, 0))) (A B : Array Value) :
    Bq w ((wc.setRow g A).setRow k B) (bs ++ [(g, A, t), (k, B, u)]) ∧ (wc.setRow g A).heap[k]? = some (.cells B0 u (0, 0)) := by
  have hs := h.be.size
  have a1 := (h.step hb).more (g := g) (fun x hx => by have := h.lt x hx; omega) (by omega) h1
  have a2 := a1.more (g := k) (fun x hx => by
    rcases List.mem_append.1 hx with hx | hx
    · have := h.lt x hx; omega
    · rw [List.mem_singleton.1 hx]; exact Ne.symm hne) (by omega) h2
  rw [List.append_assoc] at a2
  have e1 : (bs ++ ([(g, A0, t)] ++ [(k, B0, u)]))[bs.length]? = some (g, A0, t) := by rw [List.getElem?_append_right (Nat.le_refl _)]; simp
  have h3 := a2.put bs.length e1 A
  have l3 : (bs ++ ([(g, A0, t)] ++ [(k, B0, u)])).set bs.length (g, A, t) = bs ++ [(g, A, t), (k, B0, u)] := by
    rw [List.set_append_right _ _ (Nat.le_refl _)]; simp
  rw [l3] at h3
  have e2 : (bs ++ [(g, A, t), (k, B0, u)])[bs.length + 1]? = some (k, B0, u) := by rw [List.getElem?_append_right (by omega)]; simp
  have h4 := h3.put (bs.length + 1) e2 B
  have l4 : (bs ++ [(g, A, t), (k, B0, u)]).set (bs.length + 1) (k, B, u) = bs ++ [(g, A, t), (k, B, u)] := by
    rw [List.set_append_right _ _ (by omega)]; simp
  rw [l4] at h4
  exact ⟨h4, h3.of _ e2⟩
end Go.Proofs.Ytioclbkgfbjpdaa
