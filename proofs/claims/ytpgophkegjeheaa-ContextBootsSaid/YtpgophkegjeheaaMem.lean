/- Layer 7: what a memory is; what an operation on it leaves as it was. -/
import Derived.Test.YtpgophkegjeheaaLaw06s
import Derived.Test.YtpgophkegjeheaaKeep
namespace Go.Proofs.Ytpgophkegjeheaa
open Go.RowKit Go.Own
set_option linter.unusedVariables false
set_option linter.unusedSimpArgs false

def upd {α : Type} (f : Nat → α) (i : Nat) (x : α) : Nat → α := fun j => if j = i then x else f j
theorem upd_same {α : Type} (f : Nat → α) (i : Nat) (x : α) : upd f i x i = x := by simp [upd]
theorem upd_other {α : Type} (f : Nat → α) {i j : Nat} (x : α) (h : j ≠ i) : upd f i x j = f j := by simp [upd, h]
/-- Three copies, and what is pending (3): their values and bytes. -/
structure MemS (w : World) (B g : Nat) (v : Nat → Value) (ls : Nat → List Nat) : Prop where
  head : w.heap[g]? = some (.cells #[v 0, v 1, v 2, v 3] 131 (0, 0))
  own : ∀ i, i < 4 → w.ownsRow B 5 1 (v i) (ls i).length (bl (ls i))
  apart : ∀ i j, i < 4 → j < 4 → i ≠ j → (v i).ownBlock = none ∨ (v i).ownBlock ≠ (v j).ownBlock
  byt : ∀ i, i < 4 → bytes (ls i)
  len : ∀ i, i < 4 → (ls i).length ≤ 1000000
  base : B ≤ g
/-- From w to w' the memory has changed, and nothing else; its rows are rows that it had, or new ones. -/
structure MStep (g : Nat) (v v' : Nat → Value) (w w' : World) : Prop where
  os : w'.os = w.os
  tape : w'.tape = w.tape
  output : w'.output = w.output
  size : w.heap.size ≤ w'.heap.size
  block : ∀ k, k < w.heap.size → k ≠ g → (∀ i, i < 4 → (v i).ownBlock ≠ some k) → w'.heap[k]? = w.heap[k]?
  apart : ∀ k, k < w.heap.size → (∀ i, i < 4 → (v i).ownBlock ≠ some k) → ∀ i, i < 4 → (v' i).ownBlock ≠ some k
variable {w w' w'' : World} {B g : Nat} {v v' v'' : Nat → Value} {ls ls' : Nat → List Nat}
theorem MStep.refl (g : Nat) (v : Nat → Value) (w : World) : MStep g v v w w := ⟨rfl, rfl, rfl, Nat.le_refl _, fun _ _ _ _ => rfl, fun _ _ h => h⟩
theorem MStep.trans (h : MStep g v v' w w') (k : MStep g v' v'' w' w'') : MStep g v v'' w w'' :=
  ⟨k.os.trans h.os, k.tape.trans h.tape, k.output.trans h.output, Nat.le_trans h.size k.size,
   fun b hb hg hv => (k.block b (Nat.lt_of_lt_of_le hb h.size) hg (h.apart b hb hv)).trans (h.block b hb hg hv),
   fun b hb hv => k.apart b (Nat.lt_of_lt_of_le hb h.size) (h.apart b hb hv)⟩
theorem MStep.then_below (h : MStep g v v' w w') (k : Below w'.heap.size w' w'') : MStep g v v' w w'' :=
  ⟨k.os.trans h.os, k.tape.trans h.tape, k.output.trans h.output, Nat.le_trans h.size k.size,
   fun b hb hg hv => (k.block b (Nat.lt_of_lt_of_le hb h.size)).trans (h.block b hb hg hv), h.apart⟩
theorem MStep.of_below (k : Below w.heap.size w w') : MStep g v v w w' := (MStep.refl g v w).then_below k
theorem MemS.lt (h : MemS w B g v ls) : g < w.heap.size := box_lt h.head
theorem MStep.below (h : MStep g v v' w w') (m : MemS w B g v ls) : Below B w w' :=
  ⟨h.os, h.tape, h.output, h.size, fun k hk => h.block k (by have := m.lt; have := m.base; omega) (by have := m.base; omega) (fun i hi e => by have := ((m.own i hi).lt k e).1; omega)⟩
theorem MemS.below (h : MemS w B g v ls) (hb : Below w.heap.size w w') : MemS w' B g v ls :=
  ⟨box_below h.head hb h.lt, fun i hi => own_keep (h.own i hi) hb, h.apart, h.byt, h.len, h.base⟩
theorem MemS.congr (h : MemS w B g v ls) (he : ∀ i, i < 4 → ls' i = ls i) : MemS w B g v ls' :=
  ⟨h.head, fun i hi => by rw [he i hi]; exact h.own i hi, h.apart, fun i hi => by rw [he i hi]; exact h.byt i hi, fun i hi => by rw [he i hi]; exact h.len i hi, h.base⟩
theorem MemS.ne (h : MemS w B g v ls) {i : Nat} (hi : i < 4) : (v i).ownBlock ≠ some g := fun e => box_apart h.head (h.own i hi) (by decide) e.symm
/-- A row is laid into a field. -/
theorem MemS.put (h : MemS w B g v ls) {i : Nat} (hi : i < 4) {x : Value} {l : List Nat} (hx : w.ownsRow B 5 1 x l.length (bl l)) (hb : bytes l) (hl : l.length ≤ 1000000)
    (ha : ∀ j, j < 4 → j ≠ i → x.ownBlock = none ∨ x.ownBlock ≠ (v j).ownBlock) : MemS (w.setCell ⟨g, i, none⟩ x) B g (upd v i x) (upd ls i l) := by
  have hg := grown_set w ⟨g, i, none⟩ x
  refine ⟨?_, fun j hj => ?_, fun j k hj hk hjk => ?_, fun j hj => ?_, fun j hj => ?_, h.base⟩
  · rw [heap_setCell_same w g i _ _ x h.head]
    have : i = 0 ∨ i = 1 ∨ i = 2 ∨ i = 3 := by omega
    rcases this with rfl | rfl | rfl | rfl <;> simp [upd]
  · by_cases e : j = i
    · subst e
      rw [upd_same, upd_same]
      exact hx.kept hg (.inr (fun e => box_apart h.head hx (by decide) e.symm))
    · rw [upd_other _ _ e, upd_other _ _ e]
      exact (h.own j hj).kept hg (.inr (h.ne hj))
  · by_cases e : j = i
    · subst e
      rw [upd_same, upd_other _ _ (Ne.symm hjk)]
      exact ha k hk (Ne.symm hjk)
    · rw [upd_other _ _ e]
      by_cases e2 : k = i
      · subst e2
        rw [upd_same]
        rcases ha j hj e with h1 | h1
        · cases hv : (v j).ownBlock with
          | none => exact .inl rfl
          | some b => exact .inr (by rw [h1]; simp)
        · exact .inr (Ne.symm h1)
      · rw [upd_other _ _ e2]; exact h.apart j k hj hk hjk
  · by_cases e : j = i
    · subst e; rw [upd_same]; exact hb
    · rw [upd_other _ _ e]; exact h.byt j hj
  · by_cases e : j = i
    · subst e; rw [upd_same]; exact hl
    · rw [upd_other _ _ e]; exact h.len j hj
theorem MStep.put (h : MStep g v v' w w') {i : Nat} {x : Value} (hx : ∀ b, x.ownBlock = some b → w.heap.size ≤ b) : MStep g v (upd v' i x) w (w'.setCell ⟨g, i, none⟩ x) := by
  refine ⟨h.os, h.tape, h.output, by simpa using h.size, fun b hb hg hv => ?_, fun b hb hv j hj => ?_⟩
  · exact (heap_setCell_other w' ⟨g, i, none⟩ b x hg).trans (h.block b hb hg hv)
  · by_cases e : j = i
    · subst e; rw [upd_same]; intro e2; have := hx b e2; omega
    · rw [upd_other _ _ e]; exact h.apart b hb hv j hj
/-- A new row lies apart. -/
theorem MemS.fresh (h : MemS w B g v ls) {x : Value} {e : TypeId} {n : Nat} {xs : List Value} (hx : w'.ownsRow w.heap.size e 1 x n xs) : ∀ j, j < 4 → x.ownBlock = none ∨ x.ownBlock ≠ (v j).ownBlock := by
  intro j hj
  cases hv : x.ownBlock with
  | none => exact .inl rfl
  | some b =>
    refine .inr (fun e => ?_)
    have h1 := (hx.lt b hv).1
    have h2 := ((h.own j hj).lt b e.symm).2
    omega
/-- As a row of rows; each row. -/
theorem MemS.rd (h : MemS w B g v ls) {i : Nat} (hi : i < 4) : ∃ a c, v i = .slice a (ls i).length c ∧ Rd w.heap.size w a (ls i).length c (bv (ls i)) := by
  obtain ⟨a, c, e⟩ := own_form (h.own i hi)
  have := h.own i hi
  rw [e] at this
  exact ⟨a, c, e, rd_of_own this fun j hj => bl_at _ hj⟩
theorem MemS.forms (h : MemS w B g v ls) : ∃ (a : Nat → Option Addr) (c : Nat → Nat), ∀ i, i < 4 → v i = .slice (a i) (ls i).length (c i) ∧ Rd w.heap.size w (a i) (ls i).length (c i) (bv (ls i)) := by
  obtain ⟨a0, c0, h0⟩ := h.rd (i := 0) (by omega)
  obtain ⟨a1, c1, h1⟩ := h.rd (i := 1) (by omega)
  obtain ⟨a2, c2, h2⟩ := h.rd (i := 2) (by omega)
  obtain ⟨a3, c3, h3⟩ := h.rd (i := 3) (by omega)
  refine ⟨fun i => if i = 0 then a0 else if i = 1 then a1 else if i = 2 then a2 else a3, fun i => if i = 0 then c0 else if i = 1 then c1 else if i = 2 then c2 else c3, fun i hi => ?_⟩
  have : i = 0 ∨ i = 1 ∨ i = 2 ∨ i = 3 := by omega
  rcases this with rfl | rfl | rfl | rfl
  · exact h0
  · exact h1
  · exact h2
  · exact h3
theorem MemS.row (h : MemS w B g v ls) {a : Nat → Option Addr} {c : Nat → Nat} (hf : ∀ i, i < 4 → v i = .slice (a i) (ls i).length (c i) ∧ Rd w.heap.size w (a i) (ls i).length (c i) (bv (ls i))) :
    Rd w.heap.size w (some ⟨g, 0, none⟩) 3 3 (fun i => .slice (a i) (ls i).length (c i)) :=
  ⟨Nat.le_refl _, by decide, fun h => (by cases h), fun _ => ⟨g, 0, rfl, h.lt, fun i hi => by
    rw [Nat.zero_add, cell_of_row w g i _ _ _ h.head]
    have : i = 0 ∨ i = 1 ∨ i = 2 := by omega
    rcases this with rfl | rfl | rfl
    · exact congrArg some (hf 0 (by omega)).1
    · exact congrArg some (hf 1 (by omega)).1
    · exact congrArg some (hf 2 (by omega)).1⟩⟩
theorem MemS.f (h : MemS w B g v ls) (i : Nat) : w.frozen? ⟨g, i, none⟩ = false := frozen_of_row w g i _ _ h.head
theorem MemS.c0 (h : MemS w B g v ls) : w.cell? ⟨g, 0, none⟩ = some (v 0) := cell_of_row w g 0 _ _ _ h.head
theorem MemS.c1 (h : MemS w B g v ls) : w.cell? ⟨g, 1, none⟩ = some (v 1) := cell_of_row w g 1 _ _ _ h.head
theorem MemS.c2 (h : MemS w B g v ls) : w.cell? ⟨g, 2, none⟩ = some (v 2) := cell_of_row w g 2 _ _ _ h.head
theorem MemS.c3 (h : MemS w B g v ls) : w.cell? ⟨g, 3, none⟩ = some (v 3) := cell_of_row w g 3 _ _ _ h.head
end Go.Proofs.Ytpgophkegjeheaa
