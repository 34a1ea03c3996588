/- CellShows: one bit turned. -/
import Derived.Test.YtpgophkegjeheaaLaw06
import Derived.Test.YtpgophkegjeheaaKeep
import Derived.RegionTactic
import Derived.ChangeAlike
namespace Go.Proofs.Ytpgophkegjeheaa
open Go.RowKit Go.Own
set_option linter.unusedVariables false
set_option linter.unusedSimpArgs false

theorem rightB_sum {l : List Nat} (h : bytes l) (h2 : 2 ≤ l.length) : rightB l = true ↔ Cr.sum l = 0 := by
  have hx := h.at (l.length - 2)
  have hy := h.at (l.length - 1)
  have e : l = l.take (l.length - 2) ++ [l.getD (l.length - 2) 0, l.getD (l.length - 1) 0] := by
    have := seg_two l (l.length - 2) (by omega)
    rw [show l.length - 2 + 1 = l.length - 1 by omega] at this
    rw [← this]
    have h3 : (l.drop (l.length - 2)).take 2 = l.drop (l.length - 2) := List.take_of_length_le (by rw [List.length_drop]; omega)
    rw [h3, List.take_append_drop]
  have := Cr.right_iff (l.take (l.length - 2)) _ _ (h.take _) hx hy
  rw [← e] at this
  rw [this]
  unfold rightB
  simp [h2]
/-- One byte of a right cell, turned, is no cell any more. -/
theorem turned_err {l : List Nat} (h : bytes l) (he : perr l = 0) {i t : Nat} (hi : i < l.length) (h0 : t ≠ 0) (ht : t < 256) : perr (l.set i (l.getD i 0 ^^^ t)) ≠ 0 := by
  intro he'
  have len8 : 8 ≤ l.length := by
    unfold perr at he
    split at he
    · omega
    · rename_i h; omega
  have right : ∀ l : List Nat, perr l = 0 → rightB l = true := by
    intro l he
    unfold perr at he
    split at he
    · omega
    · split at he
      · assumption
      · omega
  have h1 := (rightB_sum h (by omega)).1 (right _ he)
  have hb : bytes (l.set i (l.getD i 0 ^^^ t)) := set_bytes h i (Nat.xor_lt_two_pow (n := 8) (h.at i) ht)
  have h2 := (rightB_sum hb (by rw [List.length_set]; omega)).1 (right _ he')
  have := (one_turn l i t h hi ht).1 (by rw [h1, h2])
  exact h0 this
def flipL (l : List Nat) (q : Nat) : List Nat := l.set (q / 8) (l.getD (q / 8) 0 ^^^ 2 ^ (q % 8))
theorem flipL_len (l : List Nat) (q : Nat) : (flipL l q).length = l.length := List.length_set
theorem pow8_lt (q : Nat) : 2 ^ (q % 8) < 256 := Nat.pow_lt_pow_right (by decide) (show q % 8 < 8 by omega)
theorem flipL_bytes {l : List Nat} (h : bytes l) (q : Nat) : bytes (flipL l q) := set_bytes h _ (Nat.xor_lt_two_pow (n := 8) (h.at _) (pow8_lt q))
theorem flipL_err {l : List Nat} (h : bytes l) (he : perr l = 0) {q : Nat} (hq : q < 8 * l.length) : perr (flipL l q) ≠ 0 :=
  turned_err h he (by omega) (by have := Nat.pow_pos (n := q % 8) (show 0 < 2 by decide); omega) (pow8_lt q)

/-- Three cells in a slice that is captured. -/
def CellsL (B m : Nat) (ls : Nat → List Nat) (w : World) : Prop :=
  ∃ (G cap : Nat) (g c : Nat → Nat), w.heap[B]? = some (.cells #[.slice (some ⟨G, 0, none⟩) 3 cap] 40 (0, 0)) ∧
    w.ownsRow (B + 1) 29 1 (.slice (some ⟨G, 0, none⟩) 3 cap) 3 ((List.range 3).map fun i => .slice (some ⟨g i, 0, none⟩) m (c i)) ∧
    (∀ i, i < 3 → w.ownsRow (B + 1) 5 1 (.slice (some ⟨g i, 0, none⟩) m (c i)) m (bl (ls i))) ∧ ∀ i j, i < 3 → j < 3 → i ≠ j → g i ≠ g j

theorem pow_u8 {r t : Nat} (h : 2 ^ r < 256) (ht : t = 2 ^ r) : IntKind.u8.wrap ((2 : Int) ^ r) = (t : Int) := by
  have e : ((2 : Int) ^ r) = ((2 ^ r : Nat) : Int) := by push_cast; rfl
  rw [e, ← ht, IntKind.wrap_u8]
  rw [← ht] at h
  omega
theorem xor8w (x t : Nat) (hx : x < 256) (ht : t < 256) : bits .xor .u8 (x : Int) (t : Int) = ((x ^^^ t : Nat) : Int) := xor8 x t hx ht
/-- The cells while they are made. -/
def CellsN (B m : Nat) (C : List Nat) (k : Nat) (w : World) : Prop :=
  ∃ (v : Value) (g c : Nat → Nat), w.heap[B]? = some (.cells #[v] 40 (0, 0)) ∧
    w.ownsRow (B + 1) 29 1 v k ((List.range k).map fun i => .slice (some ⟨g i, 0, none⟩) m (c i)) ∧
    (∀ i, i < k → w.ownsRow (B + 1) 5 1 (.slice (some ⟨g i, 0, none⟩) m (c i)) m (bl C)) ∧ ∀ i j, i < k → j < k → i ≠ j → g i ≠ g j
theorem info_row8 : (Try.prog.info? 29).map (fun i => (i.zero, i.size, i.bytes)) = some (some (.slice none 0 0), 1, 24) := by kernel_rfl
theorem cells_count2 (C D : List Nat) (a : Nat) (ha : a < 3) (hC : perr C = 0) (hD : perr D ≠ 0) : (vst (fun i => if i = a then D else C) 3).1 = 2 := by
  have : a = 0 ∨ a = 1 ∨ a = 2 := by omega
  rcases this with rfl | rfl | rfl <;> simp [vst_cnt, vst, hC, hD]
theorem cells_count1 (C D E : List Nat) (a b : Nat) (ha : a < 3) (hb : b < 3) (hab : a ≠ b) (hC : perr C = 0) (hD : perr D ≠ 0) (hE : perr E ≠ 0) : (vst (fun i => if i = b then E else if i = a then D else C) 3).1 = 1 := by
  have h1 : a = 0 ∨ a = 1 ∨ a = 2 := by omega
  have h2 : b = 0 ∨ b = 1 ∨ b = 2 := by omega
  rcases h1 with rfl | rfl | rfl <;> rcases h2 with rfl | rfl | rfl <;> first | (exact absurd rfl hab) | simp [vst_cnt, vst, hC, hD, hE]
theorem cells_best (C D : List Nat) (a : Nat) (ha : a < 3) (hC : perr C = 0) (hD : perr D ≠ 0) : (fun i => if i = a then D else C) (vst (fun i => if i = a then D else C) 3).2 = C := by
  have h := (vst_good (fun i => if i = a then D else C) 3 (by rw [cells_count2 C D a ha hC hD]; omega)).1
  obtain ⟨j, hj⟩ : ∃ j, j = (vst (fun i => if i = a then D else C) 3).2 := ⟨_, rfl⟩
  rw [← hj] at h ⊢
  by_cases hja : j = a
  · simp only [hja, if_true] at h; exact absurd h hD
  · simp [hja]
theorem CellsL.below {B m : Nat} {ls : Nat → List Nat} {w w' : World} (h : CellsL B m ls w) {k : Nat} (hb : Below k w w') (hk : w.heap.size ≤ k) : CellsL B m ls w' := by
  obtain ⟨G, cap, g, c, h1, h2, h3, h4⟩ := h
  exact ⟨G, cap, g, c, box_below h1 hb (Nat.lt_of_lt_of_le (box_lt h1) hk), own_below h2 hb hk, fun i hi => own_below (h3 i hi) hb hk, h4⟩
theorem CellsL.rds {B m : Nat} {ls : Nat → List Nat} {w : World} (h : CellsL B m ls w) (hl : ∀ i, i < 3 → (ls i).length = m) :
    ∃ (G cap : Nat) (pa : Nat → Option Addr) (pc : Nat → Nat), w.heap[B]? = some (.cells #[.slice (some ⟨G, 0, none⟩) 3 cap] 40 (0, 0)) ∧
      Rd w.heap.size w (some ⟨G, 0, none⟩) 3 cap (fun i => .slice (pa i) (ls i).length (pc i)) ∧ ∀ i, i < 3 → Rd w.heap.size w (pa i) (ls i).length (pc i) (bv (ls i)) := by
  obtain ⟨G, cap, g, c, h1, h2, h3, h4⟩ := h
  refine ⟨G, cap, fun i => some ⟨g i, 0, none⟩, c, h1, rd_of_own h2 (fun i hi => ?_), fun i hi => ?_⟩
  · simp [hi, hl i hi]
  · rw [hl i hi]
    exact rd_of_own (h3 i hi) (fun j hj => bl_at _ (by rw [hl i hi]; exact hj))
theorem CellsN.all {B m : Nat} {C : List Nat} {w : World} (h : CellsN B m C 3 w) : CellsL B m (fun _ => C) w := by
  obtain ⟨v, g, c, h1, h2, h3, h4⟩ := h
  obtain ⟨G, cap, rfl, _⟩ := own_some h2 (by decide)
  exact ⟨G, cap, g, c, h1, h2, h3, h4⟩
theorem CellsN.next {B m k gk ck : Nat} {C : List Nat} {w w3 w4 : World} {v v' : Value} {g c : Nat → Nat} {tmp : Obj}
    (h1 : w.heap[B]? = some (.cells #[v] 40 (0, 0))) (h2 : w.ownsRow (B + 1) 29 1 v k ((List.range k).map fun i => .slice (some ⟨g i, 0, none⟩) m (c i)))
    (h3 : ∀ i, i < k → w.ownsRow (B + 1) 5 1 (.slice (some ⟨g i, 0, none⟩) m (c i)) m (bl C)) (h4 : ∀ i j, i < k → j < k → i ≠ j → g i ≠ g j)
    (hb : Below w.heap.size w w3) (hgk : w.heap.size ≤ gk) (hk : w3.ownsRow w.heap.size 5 1 (.slice (some ⟨gk, 0, none⟩) m ck) m (bl C))
    (ho : w4.ownsRow (B + 1) 29 1 v' (k + 1) (((List.range k).map fun i => .slice (some ⟨g i, 0, none⟩) m (c i)) ++ [.slice (some ⟨gk, 0, none⟩) m ck])) (hg : (w3.alloc tmp).grownBy w4 v.ownBlock) :
    w4.heap[B]? = some (.cells #[v] 40 (0, 0)) ∧ CellsN B m C (k + 1) (w4.setCell ⟨B, 0, none⟩ v') := by
  have hlt := box_lt h1
  have e1 := box_below h1 hb hlt
  have e2 := own_below h2 hb (Nat.le_refl _)
  have e4 := box_kept (box_kept e1 (World.grownBy_alloc w3 tmp none) (by simp)) hg (box_apart e1 e2 (by decide))
  have hn : some B ≠ v'.ownBlock := box_apart e4 ho (by decide)
  have hs := grown_set w4 ⟨B, 0, none⟩ v'
  have keep : ∀ {x : Value} {l : List Value}, w3.ownsRow (B + 1) 5 1 x m l → (w4.setCell ⟨B, 0, none⟩ v').ownsRow (B + 1) 5 1 x m l := by
    intro x l hx
    have hx4 := (hx.alloc tmp).kept hg (own_apart hx e2 (by decide))
    exact hx4.kept hs (.inr (Ne.symm (box_apart e4 hx4 (by decide))))
  refine ⟨e4, v', fun i => if i = k then gk else g i, fun i => if i = k then ck else c i, box_set e4 v', ?_, fun i hi => ?_, fun i j hi hj hij => ?_⟩
  · have := ho.kept hs (.inr (Ne.symm hn))
    rw [List.range_succ, List.map_append]
    have e : (List.range k).map (fun i => Value.slice (some ⟨if i = k then gk else g i, 0, none⟩) m (if i = k then ck else c i)) = (List.range k).map fun i => .slice (some ⟨g i, 0, none⟩) m (c i) := by
      apply List.map_congr_left
      intro i hi
      have : i ≠ k := by have := List.mem_range.1 hi; omega
      simp [this]
    rw [e]
    simpa using this
  · by_cases hik : i = k
    · simp only [hik, if_true]
      exact keep (own_base hk (by omega))
    · simp only [hik, if_false]
      exact keep (own_below (h3 i (by omega)) hb (Nat.le_refl _))
  · have old : ∀ i, i < k → g i < w.heap.size := fun i hi => ((h3 i hi).lt (g i) rfl).2
    by_cases hik : i = k
    · have hjk : j ≠ k := by omega
      simp only [hik, if_true, hjk, if_false]
      have := old j (by omega)
      omega
    · by_cases hjk : j = k
      · simp only [hik, if_false, hjk, if_true]
        have := old i (by omega)
        omega
      · simp only [hik, if_false, hjk]
        exact h4 i j (by omega) (by omega) hij
end Go.Proofs.Ytpgophkegjeheaa
