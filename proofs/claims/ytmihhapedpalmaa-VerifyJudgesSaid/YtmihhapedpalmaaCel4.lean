/- Contracts of layer 6 (cells), on: the vote. -/
import Derived.Test.YtmihhapedpalmaaCel3
namespace Go.Proofs.Ytmihhapedpalmaa
open Go.RowKit Go.Own
set_option linter.unusedVariables false
set_option linter.unusedSimpArgs false

theorem tabV_one' : tabV.all (·.oneCell') = true := by rw [← rowV_all]; exact rowV_one 256
/-- How many of the first k can be read, and which of them has the greatest number. -/
def vst (ls : Nat → List Nat) : Nat → Nat × Nat
  | 0 => (0, 0)
  | k + 1 => if perr (ls k) = 0 then ((vst ls k).1 + 1, if (vst ls k).1 = 0 ∨ pseq (ls (vst ls k).2) < pseq (ls k) then k else (vst ls k).2) else vst ls k
theorem vst_le (ls : Nat → List Nat) : ∀ k, (vst ls k).1 ≤ k
  | 0 => Nat.le_refl _
  | k + 1 => by have := vst_le ls k; unfold vst; split <;> simp <;> omega
theorem vst_lt (ls : Nat → List Nat) : ∀ k, 0 < (vst ls k).1 → (vst ls k).2 < k
  | 0, h => by simp [vst] at h
  | k + 1, h => by
    have ih := vst_lt ls k
    unfold vst at h ⊢
    split
    · simp only []
      split
      · omega
      · rename_i h1 h2
        have := ih (by omega)
        omega
    · rename_i h1
      rw [if_neg h1] at h
      have := ih h
      omega
theorem vst_err (ls : Nat → List Nat) (k : Nat) (h : perr (ls k) ≠ 0) : vst ls (k + 1) = vst ls k := by rw [vst, if_neg h]
theorem vst_new (ls : Nat → List Nat) (k : Nat) (h : perr (ls k) = 0) (h' : (vst ls k).1 = 0 ∨ pseq (ls (vst ls k).2) < pseq (ls k)) : vst ls (k + 1) = ((vst ls k).1 + 1, k) := by rw [vst, if_pos h, if_pos h']
theorem vst_old (ls : Nat → List Nat) (k : Nat) (h : perr (ls k) = 0) (h' : ¬((vst ls k).1 = 0 ∨ pseq (ls (vst ls k).2) < pseq (ls k))) : vst ls (k + 1) = ((vst ls k).1 + 1, (vst ls k).2) := by rw [vst, if_pos h, if_neg h']
/-- What Vote hands back. -/
def VotePost (w : World) (ls : Nat → List Nat) (len : Nat) (e : Ending) (w' : World) : Prop :=
  Below w.heap.size w w' ∧ (((vst ls len).1 < 2 ∧ e = .returned (.tuple #[.int .u32 0, .slice none 0 0, .int .i64 3])) ∨
    (2 ≤ (vst ls len).1 ∧ ∃ x c, e = .returned (.tuple #[.int .u32 (pseq (ls (vst ls len).2) : Nat), .slice x (pdat (ls (vst ls len).2)).length c, .int .i64 0]) ∧ Rd w'.heap.size w' x (pdat (ls (vst ls len).2)).length c (bv (pdat (ls (vst ls len).2)))))

/-- A box of a number and a slice. -/
structure Box2 (w : World) (g : Nat) (u v : Value) : Prop where
  c0 : w.cell? ⟨g, 0, none⟩ = some u
  c1 : w.cell? ⟨g, 1, none⟩ = some v
  f0 : w.frozen? ⟨g, 0, none⟩ = false
  f1 : w.frozen? ⟨g, 1, none⟩ = false
theorem Box2.of {w : World} {g : Nat} {u v : Value} {t : TypeId} (h : w.heap[g]? = some (.cells #[u, v] t (0, 0))) : Box2 w g u v :=
  ⟨cell_of_row w g 0 _ _ _ h, cell_of_row w g 1 _ _ _ h, frozen_of_row w g 0 _ _ h, frozen_of_row w g 1 _ _ h⟩
theorem Box2.below {w w' : World} {g n : Nat} {u v : Value} (h : Box2 w g u v) (hb : Below n w w') (hg : g < n) : Box2 w' g u v :=
  ⟨(hb.cell (p := ⟨g, 0, none⟩) hg).trans h.c0, (hb.cell (p := ⟨g, 1, none⟩) hg).trans h.c1, (hb.frozen (p := ⟨g, 0, none⟩) hg).trans h.f0, (hb.frozen (p := ⟨g, 1, none⟩) hg).trans h.f1⟩
theorem Box2.stored {w : World} {g : Nat} {u v : Value} (h : Box2 w g u v) (u' v' : Value) : Box2 ((w.setCell ⟨g, 0, none⟩ u').setCell ⟨g, 1, none⟩ v') g u' v' := by
  obtain ⟨c0, c1, f0, f1⟩ := h
  refine ⟨?_, ?_, ?_, ?_⟩
  · go_simp
  · go_simp
  · go_simp
  · go_simp

theorem stored2 (w : World) (g : Nat) (u v : Value) : Below g w ((w.setCell ⟨g, 0, none⟩ u).setCell ⟨g, 1, none⟩ v) :=
  ((Below.refl g w).setCell (p := ⟨g, 0, none⟩) (Nat.le_refl _) u).setCell (p := ⟨g, 1, none⟩) (Nat.le_refl _) v
/-- What Vote hands back: the data lie in new memory. -/
def VoteOwn (w : World) (ls : Nat → List Nat) (len : Nat) (e : Ending) (w' : World) : Prop :=
  Below w.heap.size w w' ∧ (((vst ls len).1 < 2 ∧ e = .returned (.tuple #[.int .u32 0, .slice none 0 0, .int .i64 3])) ∨
    (2 ≤ (vst ls len).1 ∧ ∃ x c, e = .returned (.tuple #[.int .u32 (pseq (ls (vst ls len).2) : Nat), .slice x (pdat (ls (vst ls len).2)).length c, .int .i64 0]) ∧ w'.ownsRow w.heap.size 5 1 (.slice x (pdat (ls (vst ls len).2)).length c) (pdat (ls (vst ls len).2)).length (bl (pdat (ls (vst ls len).2)))))
end Go.Proofs.Ytmihhapedpalmaa
