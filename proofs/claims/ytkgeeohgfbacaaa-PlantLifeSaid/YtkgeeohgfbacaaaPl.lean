/- Plants: what one is, cell by cell. -/
import Derived.Test.YtkgeeohgfbacaaaLaw13
import Derived.Deep.MidRow
import Derived.Test.YtkgeeohgfbacaaaKeep
namespace Go.Proofs.Ytkgeeohgfbacaaa
open Go.RowKit Go.Own
set_option linter.unusedVariables false
set_option linter.unusedSimpArgs false
/-- A plant: each place's unit, its Wait, its Tolerate; how many there are. -/
structure Pl where
  u : Nat → Un
  wt : Nat → Int
  tol : Nat → Int
  n : Nat
def Pl.cell (p : Pl) (k : Nat) : Value :=
  if k < 80 then (if k % 5 = 0 then .int .u8 (p.u (k / 5)).s else if k % 5 = 1 then .int .u8 (p.u (k / 5)).l else if k % 5 = 2 then .int .u8 (p.u (k / 5)).b else if k % 5 = 3 then .int .u8 (p.wt (k / 5)) else .int .u8 (p.tol (k / 5))) else .int .i64 (p.n : Nat)
/-- Its cells. -/
def Pl.cs (p : Pl) : Array Value := Array.ofFn (n := 81) fun k => p.cell k
theorem Pl.size (p : Pl) : p.cs.size = 81 := by simp [Pl.cs]
theorem Pl.at_ (p : Pl) {k : Nat} (h : k < 81) : p.cs[k]? = some (p.cell k) := by simp [Pl.cs, Array.getElem?_ofFn, h]
theorem Pl.none (p : Pl) {k : Nat} (h : ¬ k < 81) : p.cs[k]? = none := Array.getElem?_eq_none (by rw [p.size]; omega)
attribute [irreducible] Pl.cs
theorem Pl.s (p : Pl) {i : Nat} (h : i < 16) : p.cs[i * 5]? = some (.int .u8 (p.u i).s) := by
  rw [p.at_ (by omega), Pl.cell, if_pos (by omega), if_pos (by omega), show i * 5 / 5 = i by omega]
theorem Pl.l (p : Pl) {i : Nat} (h : i < 16) : p.cs[i * 5 + 1]? = some (.int .u8 (p.u i).l) := by
  rw [p.at_ (by omega), Pl.cell, if_pos (by omega), if_neg (by omega), if_pos (by omega), show (i * 5 + 1) / 5 = i by omega]
theorem Pl.b (p : Pl) {i : Nat} (h : i < 16) : p.cs[i * 5 + 2]? = some (.int .u8 (p.u i).b) := by
  rw [p.at_ (by omega), Pl.cell, if_pos (by omega), if_neg (by omega), if_neg (by omega), if_pos (by omega), show (i * 5 + 2) / 5 = i by omega]
theorem Pl.w (p : Pl) {i : Nat} (h : i < 16) : p.cs[i * 5 + 3]? = some (.int .u8 (p.wt i)) := by
  rw [p.at_ (by omega), Pl.cell, if_pos (by omega), if_neg (by omega), if_neg (by omega), if_neg (by omega), if_pos (by omega), show (i * 5 + 3) / 5 = i by omega]
theorem Pl.t (p : Pl) {i : Nat} (h : i < 16) : p.cs[i * 5 + 4]? = some (.int .u8 (p.tol i)) := by
  rw [p.at_ (by omega), Pl.cell, if_pos (by omega), if_neg (by omega), if_neg (by omega), if_neg (by omega), if_neg (by omega), show (i * 5 + 4) / 5 = i by omega]
theorem Pl.c (p : Pl) : p.cs[80]? = some (.int .i64 (p.n : Nat)) := by rw [p.at_ (by omega), Pl.cell, if_neg (by omega)]
def Pl.set (p : Pl) (i : Nat) (v : Un) : Pl := ⟨fun j => if j = i then v else p.u j, p.wt, p.tol, p.n⟩
def Pl.rule (p : Pl) (i : Nat) (a b : Int) : Pl := ⟨p.u, fun j => if j = i then a else p.wt j, fun j => if j = i then b else p.tol j, p.n⟩
def Pl.empty (n : Nat) : Pl := ⟨fun _ => ⟨0, 0, 0⟩, fun _ => 0, fun _ => 0, n⟩
/-- A plant's block: all of it. -/
theorem Pl.ext_cs {p q : Pl} (hu : ∀ i, i < 16 → p.u i = q.u i) (hw : ∀ i, i < 16 → p.wt i = q.wt i) (ht : ∀ i, i < 16 → p.tol i = q.tol i) (hn : p.n = q.n) : p.cs = q.cs := by
  apply Array.ext_getElem?
  intro k
  by_cases hk : k < 81
  · rw [p.at_ hk, q.at_ hk]
    congr 1
    unfold Pl.cell
    by_cases h80 : k < 80
    · rw [if_pos h80, if_pos h80, hu (k / 5) (by omega), hw (k / 5) (by omega), ht (k / 5) (by omega)]
    · rw [if_neg h80, if_neg h80, hn]
  · rw [p.none hk, q.none hk]
theorem arr_set {C D : Array Value} {k : Nat} {v : Value} (hs : C.size = D.size) (hk : k < C.size) (hv : D[k]? = some v) (ho : ∀ j, j ≠ k → C[j]? = D[j]?) : C.setIfInBounds k v = D := by
  apply Array.ext_getElem?
  intro j
  by_cases h : j = k
  · subst h
    rw [Array.getElem?_setIfInBounds_self_of_lt hk, hv]
  · rw [Array.getElem?_setIfInBounds_ne (Ne.symm h)]
    exact ho j h
theorem Pl.set_cs (p : Pl) (i : Nat) (v : Un) (h : i < 16) : ((p.cs.setIfInBounds (i * 5) (.int .u8 v.s)).setIfInBounds (i * 5 + 1) (.int .u8 v.l)).setIfInBounds (i * 5 + 2) (.int .u8 v.b) = (p.set i v).cs := by
  have hz := p.size
  have hu : (p.set i v).u i = v := if_pos rfl
  apply Array.ext_getElem?
  intro k
  by_cases hk : k < 81
  · rw [(p.set i v).at_ hk]
    by_cases h2 : k = i * 5 + 2
    · subst h2
      rw [Array.getElem?_setIfInBounds_self_of_lt (by simp only [Array.size_setIfInBounds, hz]; omega), ← (p.set i v).at_ hk, (p.set i v).b h, hu]
    rw [Array.getElem?_setIfInBounds_ne (Ne.symm h2)]
    by_cases h1 : k = i * 5 + 1
    · subst h1
      rw [Array.getElem?_setIfInBounds_self_of_lt (by simp only [Array.size_setIfInBounds, hz]; omega), ← (p.set i v).at_ hk, (p.set i v).l h, hu]
    rw [Array.getElem?_setIfInBounds_ne (Ne.symm h1)]
    by_cases h0 : k = i * 5
    · subst h0
      rw [Array.getElem?_setIfInBounds_self_of_lt (by simp only [Array.size_setIfInBounds, hz]; omega), ← (p.set i v).at_ hk, (p.set i v).s h, hu]
    rw [Array.getElem?_setIfInBounds_ne (Ne.symm h0), p.at_ hk]
    congr 1
    unfold Pl.cell
    by_cases h80 : k < 80
    · rw [if_pos h80, if_pos h80]
      by_cases hi : k / 5 = i
      · have e0 : ¬ k % 5 = 0 := by omega
        have e1 : ¬ k % 5 = 1 := by omega
        have e2 : ¬ k % 5 = 2 := by omega
        rw [if_neg e0, if_neg e0, if_neg e1, if_neg e1, if_neg e2, if_neg e2]
        rfl
      · have : (p.set i v).u (k / 5) = p.u (k / 5) := if_neg hi
        rw [this]
        rfl
    · rw [if_neg h80, if_neg h80]
      rfl
  · rw [Array.getElem?_eq_none (by simp only [Array.size_setIfInBounds, hz]; omega), Pl.none _ hk]
theorem Pl.rule_cs (p : Pl) (i : Nat) (a b : Int) (h : i < 16) : (p.cs.setIfInBounds (i * 5 + 3) (.int .u8 a)).setIfInBounds (i * 5 + 4) (.int .u8 b) = (p.rule i a b).cs := by
  have hz := p.size
  have hu : (p.rule i a b).wt i = a := if_pos rfl
  have hv : (p.rule i a b).tol i = b := if_pos rfl
  apply Array.ext_getElem?
  intro k
  by_cases hk : k < 81
  · rw [(p.rule i a b).at_ hk]
    by_cases h2 : k = i * 5 + 4
    · subst h2
      rw [Array.getElem?_setIfInBounds_self_of_lt (by simp only [Array.size_setIfInBounds, hz]; omega), ← (p.rule i a b).at_ hk, (p.rule i a b).t h, hv]
    rw [Array.getElem?_setIfInBounds_ne (Ne.symm h2)]
    by_cases h1 : k = i * 5 + 3
    · subst h1
      rw [Array.getElem?_setIfInBounds_self_of_lt (by simp only [Array.size_setIfInBounds, hz]; omega), ← (p.rule i a b).at_ hk, (p.rule i a b).w h, hu]
    rw [Array.getElem?_setIfInBounds_ne (Ne.symm h1), p.at_ hk]
    congr 1
    unfold Pl.cell
    by_cases h80 : k < 80
    · rw [if_pos h80, if_pos h80]
      by_cases hi : k / 5 = i
      · by_cases e0 : k % 5 = 0
        · rw [if_pos e0, if_pos e0]; rfl
        by_cases e1 : k % 5 = 1
        · rw [if_neg e0, if_neg e0, if_pos e1, if_pos e1]; rfl
        · rw [if_neg e0, if_neg e0, if_neg e1, if_neg e1, if_pos (by omega), if_pos (by omega)]; rfl
      · have h3 : (p.rule i a b).wt (k / 5) = p.wt (k / 5) := if_neg hi
        have h4 : (p.rule i a b).tol (k / 5) = p.tol (k / 5) := if_neg hi
        rw [h3, h4]
        rfl
    · rw [if_neg h80, if_neg h80]
      rfl
  · rw [Array.getElem?_eq_none (by simp only [Array.size_setIfInBounds, hz]; omega), Pl.none _ hk]
theorem Pl.one (p : Pl) : (p.cs).all (·.oneCell') = true := by
  rw [Array.all_eq_true]
  intro i hi
  have := p.at_ (k := i) (by rw [p.size] at hi; exact hi)
  rw [Array.getElem?_eq_getElem hi] at this
  rw [Option.some.inj this]
  unfold Pl.cell
  split
  · split
    · rfl
    split
    · rfl
    split
    · rfl
    split <;> rfl
  · rfl
/-- A plant in a block of its own. -/
def PlB (w : World) (g : Nat) (p : Pl) : Prop := w.heap[g]? = some (.cells p.cs 95 (0, 0))
theorem size_pl (p : Pl) : (Try.prog.info? 95).map (·.size) = some p.cs.size := by
  rw [p.size]
  kernel_rfl
theorem PlB.below {w w' : World} {g k : Nat} {p : Pl} (h : PlB w g p) (hb : Below k w w') (hk : w.heap.size ≤ k) : PlB w' g p := box_below h hb (Nat.lt_of_lt_of_le (box_lt h) hk)
theorem PlB.cellS {w : World} {g i : Nat} {p : Pl} (h : PlB w g p) (hi : i < 16) : w.cell? ⟨g, i * 5, none⟩ = some (.int .u8 (p.u i).s) := (cell_of_row w g (i * 5) _ _ _ h).trans (p.s hi)
theorem PlB.cellL {w : World} {g i : Nat} {p : Pl} (h : PlB w g p) (hi : i < 16) : w.cell? ⟨g, i * 5 + 1, none⟩ = some (.int .u8 (p.u i).l) := (cell_of_row w g (i * 5 + 1) _ _ _ h).trans (p.l hi)
theorem PlB.cellB {w : World} {g i : Nat} {p : Pl} (h : PlB w g p) (hi : i < 16) : w.cell? ⟨g, i * 5 + 2, none⟩ = some (.int .u8 (p.u i).b) := (cell_of_row w g (i * 5 + 2) _ _ _ h).trans (p.b hi)
theorem PlB.cellW {w : World} {g i : Nat} {p : Pl} (h : PlB w g p) (hi : i < 16) : w.cell? ⟨g, i * 5 + 3, none⟩ = some (.int .u8 (p.wt i)) := (cell_of_row w g (i * 5 + 3) _ _ _ h).trans (p.w hi)
theorem PlB.cellT {w : World} {g i : Nat} {p : Pl} (h : PlB w g p) (hi : i < 16) : w.cell? ⟨g, i * 5 + 4, none⟩ = some (.int .u8 (p.tol i)) := (cell_of_row w g (i * 5 + 4) _ _ _ h).trans (p.t hi)
theorem PlB.cellC {w : World} {g : Nat} {p : Pl} (h : PlB w g p) : w.cell? ⟨g, 80, none⟩ = some (.int .i64 (p.n : Nat)) := (cell_of_row w g 80 _ _ _ h).trans p.c
theorem PlB.set {w : World} {g i : Nat} {p : Pl} (h : PlB w g p) (hi : i < 16) (s l b : Int) : PlB (((w.setCell ⟨g, i * 5, none⟩ (.int .u8 s)).setCell ⟨g, i * 5 + 1, none⟩ (.int .u8 l)).setCell ⟨g, i * 5 + 2, none⟩ (.int .u8 b)) g (p.set i ⟨s, l, b⟩) := by
  unfold PlB
  rw [← p.set_cs i ⟨s, l, b⟩ hi]
  exact heap_setCell_same _ g _ _ _ _ (heap_setCell_same _ g _ _ _ _ (heap_setCell_same w g _ _ _ _ h))
theorem PlB.rule {w : World} {g i : Nat} {p : Pl} (h : PlB w g p) (hi : i < 16) (a b : Int) : PlB ((w.setCell ⟨g, i * 5 + 3, none⟩ (.int .u8 a)).setCell ⟨g, i * 5 + 4, none⟩ (.int .u8 b)) g (p.rule i a b) := by
  unfold PlB
  rw [← p.rule_cs i a b hi]
  exact heap_setCell_same _ g _ _ _ _ (heap_setCell_same w g _ _ _ _ h)
end Go.Proofs.Ytkgeeohgfbacaaa
