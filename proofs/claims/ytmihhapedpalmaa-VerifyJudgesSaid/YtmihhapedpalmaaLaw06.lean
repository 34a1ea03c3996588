/- Layer 6: what a vote tells of the cells' numbers; the example. -/
import Derived.Test.YtmihhapedpalmaaCel6
import Derived.Test.YtmihhapedpalmaaLaw05
import Derived.Laws.BytesArg
namespace Go.Proofs.Ytmihhapedpalmaa
open Go.RowKit Go.Own
set_option linter.unusedVariables false
set_option linter.unusedSimpArgs false

/-- One of three, one of four. -/
def sel3 {α : Type} (a b c : α) : Nat → α := fun i => if i = 0 then a else if i = 1 then b else c
def sel4 {α : Type} (a b c d : α) : Nat → α := fun i => if i = 0 then a else if i = 1 then b else if i = 2 then c else d
theorem vst_good (ls : Nat → List Nat) : ∀ k, 0 < (vst ls k).1 → perr (ls (vst ls k).2) = 0 ∧ ∀ i, i < k → perr (ls i) = 0 → pseq (ls i) ≤ pseq (ls (vst ls k).2)
  | 0, h => by simp [vst] at h
  | k + 1, h => by
    have ih := vst_good ls k
    by_cases he : perr (ls k) = 0
    · by_cases hn : (vst ls k).1 = 0 ∨ pseq (ls (vst ls k).2) < pseq (ls k)
      · rw [vst_new ls k he hn]
        refine ⟨he, fun i hi hg => ?_⟩
        rcases Nat.lt_or_ge i k with hik | hik
        · rcases Nat.eq_zero_or_pos (vst ls k).1 with h0 | h0
          · exfalso
            have : ∀ k, (vst ls k).1 = 0 → ∀ i, i < k → perr (ls i) ≠ 0 := by
              intro k
              induction k with
              | zero => intro _ i hi; omega
              | succ k ihk =>
                intro hz i hi
                by_cases hek : perr (ls k) = 0
                · unfold vst at hz; rw [if_pos hek] at hz; simp at hz
                · rw [vst_err ls k hek] at hz
                  rcases Nat.lt_or_ge i k with h1 | h1
                  · exact ihk hz i h1
                  · obtain rfl : i = k := by omega
                    exact hek
            exact this k h0 i hik hg
          · have := (ih h0).2 i hik hg
            rcases hn with hn | hn
            · omega
            · show _ ≤ pseq (ls k); omega
        · obtain rfl : i = k := by omega
          exact Nat.le_refl _
      · rw [vst_old ls k he hn]
        have h0 : 0 < (vst ls k).1 := by omega
        refine ⟨(ih h0).1, fun i hi hg => ?_⟩
        rcases Nat.lt_or_ge i k with hik | hik
        · exact (ih h0).2 i hik hg
        · obtain rfl : i = k := by omega
          show _ ≤ pseq (ls (vst ls i).2); omega
    · rw [vst_err ls k he] at h ⊢
      refine ⟨(ih h).1, fun i hi hg => ?_⟩
      rcases Nat.lt_or_ge i k with hik | hik
      · exact (ih h).2 i hik hg
      · obtain rfl : i = k := by omega
        exact absurd hg he
theorem vst_cnt (ls : Nat → List Nat) (k : Nat) : (vst ls (k + 1)).1 = (vst ls k).1 + if perr (ls k) = 0 then 1 else 0 := by
  by_cases h : perr (ls k) = 0
  · rw [vst, if_pos h, if_pos h]
  · rw [vst, if_neg h, if_neg h]; rfl

theorem rd_four {w : World} {g n : Nat} {u v x y : Value} {t : TypeId} (h : w.heap[g]? = some (.cells #[u, v, x, y] t (0, 0))) (hg : g < n) : Rd n w (some ⟨g, 0, none⟩) 4 4 (sel4 u v x y) :=
  ⟨Nat.le_refl _, by unfold maxLen; omega, fun h => (by cases h), fun _ => ⟨g, 0, rfl, hg, fun i hi => by
    have : i = 0 ∨ i = 1 ∨ i = 2 ∨ i = 3 := by omega
    rcases this with rfl | rfl | rfl | rfl
    · exact cell_of_row w g 0 _ _ _ h
    · exact cell_of_row w g 1 _ _ _ h
    · exact cell_of_row w g 2 _ _ _ h
    · exact cell_of_row w g 3 _ _ _ h⟩⟩
theorem pair_new : bytes [111, 108, 100] ∧ bytes [110, 101, 119] := by unfold bytes; decide
def cellA : List Nat := mkCell 5 [111, 108, 100]
def cellB : List Nat := mkCell 6 [110, 101, 119]
theorem cellA_facts : cellA.length = 11 ∧ perr cellA = 0 ∧ pseq cellA = 5 ∧ bytes cellA := ⟨mkCell_len _ _, mkCell_err _ _ (by decide), mkCell_seq _ _ (by decide), mkCell_bytes pair_new.1⟩
theorem cellB_facts : cellB.length = 11 ∧ perr cellB = 0 ∧ pseq cellB = 6 ∧ bytes cellB ∧ pdat cellB = [110, 101, 119] := ⟨mkCell_len _ _, mkCell_err _ _ (by decide), mkCell_seq _ _ (by decide), mkCell_bytes pair_new.2, mkCell_dat _ _⟩
theorem vst_AAB : vst (sel3 cellA cellA cellB) 3 = (3, 2) := by
  obtain ⟨_, a2, a3, _⟩ := cellA_facts
  obtain ⟨_, b2, b3, _⟩ := cellB_facts
  have e0 : sel3 cellA cellA cellB 0 = cellA := rfl
  have e1 : sel3 cellA cellA cellB 1 = cellA := rfl
  have e2 : sel3 cellA cellA cellB 2 = cellB := rfl
  simp [vst, e0, e1, e2, a2, a3, b2, b3]
theorem vst_B : (vst (fun _ => cellB) 1).1 = 1 := by
  obtain ⟨_, b2, b3, _⟩ := cellB_facts
  simp [vst, b2]
theorem cellA_eq : mkCell 5 [111, 108, 100] = cellA := rfl
theorem cellB_eq : mkCell 6 [110, 101, 119] = cellB := rfl
attribute [irreducible] cellA cellB

end Go.Proofs.Ytmihhapedpalmaa
