/- Layer 6: what a vote tells of the cells' numbers; the example. -/
import Derived.Test.YtpgophkegjeheaaCel6
import Derived.Test.YtpgophkegjeheaaLaw05
import Derived.Laws.BytesArg
namespace Go.Proofs.Ytpgophkegjeheaa
open Go.RowKit Go.Own
set_option linter.unusedVariables false
set_option linter.unusedSimpArgs false

/-- One of three, one of four. -/
def sel3 {α : Type} (a b c : α) : Nat → α := fun i => if i = 0 then a else if i = 1 then b else c
def sel4 {α : Type} (a b c d : α) : Nat → α := fun i => if i = 0 then a else if i = 1 then b else if i = 2 then c else d
theorem vst_good (ls : Nat → List Nat) : ∀ k, 0 < (vst ls k).1 → perr (ls (vst ls k).2) = 0 ∧ ∀ i, i < k → perr (ls i) = 0 → pseq (ls i) ≤ pseq (ls (vst ls k).2)
  | 0, h => by simp [vst] at h
  | k + 1, h => by
    have ih := vst_good ls k
    by_cases he : perr (ls k) = 0
    · by_cases hn : (vst ls k).1 = 0 ∨ pseq (ls (vst ls k).2) < pseq (ls k)
      · rw [vst_new ls k he hn]
        refine ⟨he, fun i hi hg => ?_⟩
        rcases Nat.lt_or_ge i k with hik | hik
        · rcases Nat.eq_zero_or_pos (vst ls k).1 with h0 | h0
          · exfalso
            have : ∀ k, (vst ls k).1 = 0 → ∀ i, i < k → perr (ls i) ≠ 0 := by
              intro k
              induction k with
              | zero => intro _ i hi; omega
              | succ k ihk =>
                intro hz i hi
                by_cases hek : perr (ls k) = 0
                · unfold vst at hz; rw [if_pos hek] at hz; simp at hz
                · rw [vst_err ls k hek] at hz
                  rcases Nat.lt_or_ge i k with h1 | h1
                  · exact ihk hz i h1
                  · obtain rfl : i = k := by omega
                    exact hek
            exact this k h0 i hik hg
          · have := (ih h0).2 i hik hg
            rcases hn with hn | hn
            · omega
            · show _ ≤ pseq (ls k); omega
        · obtain rfl : i = k := by omega
          exact Nat.le_refl _
      · rw [vst_old ls k he hn]
        have h0 : 0 < (vst ls k).1 := by omega
        refine ⟨(ih h0).1, fun i hi hg => ?_⟩
        rcases Nat.lt_or_ge i k with hik | hik
        · exact (ih h0).2 i hik hg
        · obtain rfl : i = k := by omega
          show _ ≤ pseq (ls (vst ls i).2); omega
    · rw [vst_err ls k he] at h ⊢
      refine ⟨(ih h).1, fun i hi hg => ?_⟩
      rcases Nat.lt_or_ge i k with hik | hik
      · exact (ih h).2 i hik hg
      · obtain rfl : i = k := by omega
        exact absurd hg he
theorem vst_cnt (ls : Nat → List Nat) (k : Nat) : (vst ls (k + 1)).1 = (vst ls k).1 + if perr (ls k) = 0 then 1 else 0 := by
  by_cases h : perr (ls k) = 0
  · rw [vst, if_pos h, if_pos h]
  · rw [vst, if_neg h, if_neg h]; rfl

theorem rd_four {w : World} {g n : Nat} {u v x y : Value} {t : TypeId} (h : w.heap[g]? = some (.cells #[u, v, x, y] t (0, 0))) (hg : g < n) : Rd n w (some ⟨g, 0, none⟩) 4 4 (sel4 u v x y) :=
  ⟨Nat.le_refl _, by unfold maxLen; omega, fun h => (by cases h), fun _ => ⟨g, 0, rfl, hg, fun i hi => by
    have : i = 0 ∨ i = 1 ∨ i = 2 ∨ i = 3 := by omega
    rcases this with rfl | rfl | rfl | rfl
    · exact cell_of_row w g 0 _ _ _ h
    · exact cell_of_row w g 1 _ _ _ h
    · exact cell_of_row w g 2 _ _ _ h
    · exact cell_of_row w g 3 _ _ _ h⟩⟩
theorem Vote1 {g : Nat} {a : Option Addr} {la ca n : Nat} {t : TypeId} {l : List Nat} {w : World} (hl : l.length = la) (h : w.heap[g]? = some (.cells #[.slice a la ca] t (0, 0))) (ra : Rd n w a la ca (bv l)) (hn : n ≤ w.heap.size) (bl1 : bytes l) (hs : l.length ≤ 1000000) :
    Calls Try.prog 95 #[.slice (some ⟨g, 0, none⟩) 1 1] w (VotePost w (fun _ => l) 1) := by
  subst hl
  exact cVote_any (some ⟨g, 0, none⟩) 1 1 w.heap.size (fun _ => a) (fun _ => ca) (fun _ => l) w (Nat.le_refl _) (rd_one h (lt_of_heap h)) (fun _ _ => ra.mono hn) (fun _ _ => bl1) (fun _ _ => hs)
theorem Vote3 {g : Nat} {a b d : Option Addr} {la lb ld ca cb cd n : Nat} {t : TypeId} {l m k : List Nat} {w : World} (hl : l.length = la) (hm : m.length = lb) (hk : k.length = ld) (h : w.heap[g]? = some (.cells #[.slice a la ca, .slice b lb cb, .slice d ld cd] t (0, 0))) (ra : Rd n w a la ca (bv l)) (rb : Rd n w b lb cb (bv m)) (rd : Rd n w d ld cd (bv k)) (hn : n ≤ w.heap.size)
    (bl1 : bytes l) (bl2 : bytes m) (bl3 : bytes k) (hs : l.length ≤ 1000000 ∧ m.length ≤ 1000000 ∧ k.length ≤ 1000000) :
    Calls Try.prog 95 #[.slice (some ⟨g, 0, none⟩) 3 3] w (VotePost w (sel3 l m k) 3) := by
  have hr := rd_three h (lt_of_heap h)
  subst hl hm hk
  have hr := hr.same (g := fun i => .slice ((sel3 a b d) i) ((sel3 l m k) i).length ((sel3 ca cb cd) i)) (fun i hi => by
    unfold sel3
    by_cases h0 : i = 0
    · simp [h0]
    · by_cases h1 : i = 1 <;> simp [h0, h1])
  refine cVote_any (some ⟨g, 0, none⟩) 3 3 w.heap.size (sel3 a b d) (sel3 ca cb cd) (sel3 l m k) w (Nat.le_refl _) hr (fun i hi => ?_) (fun i hi => ?_) (fun i hi => ?_)
  · unfold sel3
    split
    · exact ra.mono hn
    · split
      · exact rb.mono hn
      · exact rd.mono hn
  · unfold sel3
    split
    · exact bl1
    · split
      · exact bl2
      · exact bl3
  · unfold sel3
    split
    · exact hs.1
    · split
      · exact hs.2.1
      · exact hs.2.2
theorem Vote4 {g : Nat} {a b d e : Option Addr} {la lb ld le ca cb cd ce n : Nat} {t : TypeId} {l m k o : List Nat} {w : World} (hl : l.length = la) (hm : m.length = lb) (hk : k.length = ld) (ho : o.length = le) (h : w.heap[g]? = some (.cells #[.slice a la ca, .slice b lb cb, .slice d ld cd, .slice e le ce] t (0, 0))) (ra : Rd n w a la ca (bv l)) (rb : Rd n w b lb cb (bv m)) (rd : Rd n w d ld cd (bv k)) (re : Rd n w e le ce (bv o)) (hn : n ≤ w.heap.size)
    (bl1 : bytes l) (bl2 : bytes m) (bl3 : bytes k) (bl4 : bytes o) (hs : l.length ≤ 1000000 ∧ m.length ≤ 1000000 ∧ k.length ≤ 1000000 ∧ o.length ≤ 1000000) :
    Calls Try.prog 95 #[.slice (some ⟨g, 0, none⟩) 4 4] w (VotePost w (sel4 l m k o) 4) := by
  have hr := rd_four h (lt_of_heap h)
  subst hl hm hk ho
  have hr := hr.same (g := fun i => .slice ((sel4 a b d e) i) ((sel4 l m k o) i).length ((sel4 ca cb cd ce) i)) (fun i hi => by
    unfold sel4
    by_cases h0 : i = 0
    · simp [h0]
    · by_cases h1 : i = 1
      · simp [h0, h1]
      · by_cases h2 : i = 2 <;> simp [h0, h1, h2])
  refine cVote_any (some ⟨g, 0, none⟩) 4 4 w.heap.size (sel4 a b d e) (sel4 ca cb cd ce) (sel4 l m k o) w (Nat.le_refl _) hr (fun i hi => ?_) (fun i hi => ?_) (fun i hi => ?_)
  · unfold sel4
    split
    · exact ra.mono hn
    · split
      · exact rb.mono hn
      · split
        · exact rd.mono hn
        · exact re.mono hn
  · unfold sel4
    split
    · exact bl1
    · split
      · exact bl2
      · split
        · exact bl3
        · exact bl4
  · unfold sel4
    split
    · exact hs.1
    · split
      · exact hs.2.1
      · split
        · exact hs.2.2.1
        · exact hs.2.2.2

theorem pair_new : bytes [111, 108, 100] ∧ bytes [110, 101, 119] := by unfold bytes; decide
def cellA : List Nat := mkCell 5 [111, 108, 100]
def cellB : List Nat := mkCell 6 [110, 101, 119]
theorem cellA_facts : cellA.length = 11 ∧ perr cellA = 0 ∧ pseq cellA = 5 ∧ bytes cellA := ⟨mkCell_len _ _, mkCell_err _ _ (by decide), mkCell_seq _ _ (by decide), mkCell_bytes pair_new.1⟩
theorem cellB_facts : cellB.length = 11 ∧ perr cellB = 0 ∧ pseq cellB = 6 ∧ bytes cellB ∧ pdat cellB = [110, 101, 119] := ⟨mkCell_len _ _, mkCell_err _ _ (by decide), mkCell_seq _ _ (by decide), mkCell_bytes pair_new.2, mkCell_dat _ _⟩
theorem vst_AAB : vst (sel3 cellA cellA cellB) 3 = (3, 2) := by
  obtain ⟨_, a2, a3, _⟩ := cellA_facts
  obtain ⟨_, b2, b3, _⟩ := cellB_facts
  have e0 : sel3 cellA cellA cellB 0 = cellA := rfl
  have e1 : sel3 cellA cellA cellB 1 = cellA := rfl
  have e2 : sel3 cellA cellA cellB 2 = cellB := rfl
  simp [vst, e0, e1, e2, a2, a3, b2, b3]
theorem vst_B : (vst (fun _ => cellB) 1).1 = 1 := by
  obtain ⟨_, b2, b3, _⟩ := cellB_facts
  simp [vst, b2]
theorem cellA_eq : mkCell 5 [111, 108, 100] = cellA := rfl
theorem cellB_eq : mkCell 6 [110, 101, 119] = cellB := rfl
attribute [irreducible] cellA cellB

end Go.Proofs.Ytpgophkegjeheaa
