/- Numbers: of what bytes they are read. -/
import Derived.Test.YtkgeeohgfbacaaaPs3
import Derived.Test.YtkgeeohgfbacaaaPk6
namespace Go.Proofs.Ytkgeeohgfbacaaa
open Go.RowKit Go.Own
set_option linter.unusedVariables false
set_option linter.unusedSimpArgs false

theorem val_foldl (l : List Nat) : ∀ v : Nat, l.foldl (fun v b => 256 * v + b) v = v * 256 ^ l.length + l.foldl (fun v b => 256 * v + b) 0 := by
  induction l with
  | nil => intro v; simp
  | cons a l ih =>
    intro v
    simp only [List.foldl_cons, List.length_cons]
    rw [ih (256 * v + a), ih (256 * 0 + a), Nat.pow_succ, Nat.add_mul]
    have : 256 * v * 256 ^ l.length = v * (256 ^ l.length * 256) := by
      rw [Nat.mul_comm 256 v, Nat.mul_assoc, Nat.mul_comm 256]
    rw [this]
    simp
    omega
theorem val_cons (a : Nat) (l : List Nat) : val (a :: l) = a * 256 ^ l.length + val l := by
  unfold val
  rw [List.foldl_cons, val_foldl]
  simp
theorem val_numB (x : Nat) : ∀ q, val (numB x q) = x % 256 ^ q
  | 0 => by simp [numB, val, Nat.mod_one]
  | q + 1 => by
    rw [numB, val_cons, numB_len, val_numB x q, Nat.pow_succ, Nat.mod_mul]
    rw [Nat.mul_comm]
    omega
theorem numB_add (x a k : Nat) : ∀ j, j ≤ k → numB (a * 256 ^ k + x) j = numB x j
  | 0, _ => rfl
  | j + 1, h => by
    rw [numB, numB, numB_add x a k j (by omega)]
    have h1 : a * 256 ^ k = 256 ^ j * (a * 256 ^ (k - j - 1) * 256) := by
      rw [show k = j + ((k - j - 1) + 1) by omega, Nat.pow_add, Nat.pow_succ]
      rw [show j + ((k - j - 1) + 1) - j - 1 = k - j - 1 by omega]
      rw [Nat.mul_assoc a, ← Nat.mul_assoc (a), Nat.mul_comm a (256 ^ j), Nat.mul_assoc]
    rw [h1, Nat.mul_add_div (Nat.pow_pos (by omega))]
    rw [Nat.mul_add_mod_self_right]
theorem numB_val : ∀ (l : List Nat), bytes l → numB (val l) l.length = l
  | [], _ => rfl
  | a :: l, h => by
    have ha : a < 256 := h a (by simp)
    have hl : bytes l := fun b hb => h b (by simp [hb])
    have hv := val_lt l hl
    rw [val_cons, List.length_cons, numB, numB_add _ _ _ _ (Nat.le_refl _), numB_val l hl]
    congr 1
    rw [Nat.mul_comm, Nat.mul_add_div (Nat.pow_pos (by omega)), Nat.div_eq_of_lt hv]
    omega
/-- How many bytes the first sizes ask for. -/
def tot (s : Nat → Int) : Nat → Nat
  | 0 => 0
  | k + 1 => tot s k + (s k).toNat
def allSz (s : Nat → Int) (n : Nat) : Prop := ∀ i, i < n → isSz (s i) = true
theorem allSz.sz {s : Nat → Int} {n : Nat} (h : allSz s n) {i : Nat} (hi : i < n) : ∃ q : Nat, s i = (q : Int) ∧ 1 ≤ q ∧ q ≤ 4 := by
  obtain ⟨q, h1, h2, h3, _⟩ := lay1_yes (h i hi) 0
  exact ⟨q, h1, h2, h3⟩
theorem tot_le4 {s : Nat → Int} {n : Nat} (h : allSz s n) : ∀ k, k ≤ n → tot s k ≤ 4 * k
  | 0, _ => by simp [tot]
  | k + 1, hk => by
    have := tot_le4 h k (by omega)
    obtain ⟨q, h1, h2, h3⟩ := h.sz (show k < n by omega)
    simp only [tot, h1]
    omega
theorem tot_mono (s : Nat → Int) {i n : Nat} (h : i ≤ n) : tot s i ≤ tot s n := by
  induction n with
  | zero => rw [show i = 0 by omega]; exact Nat.le_refl _
  | succ n ih =>
    rcases Nat.lt_or_ge n i with h' | h'
    · rw [show i = n + 1 by omega]; exact Nat.le_refl _
    · have := ih h'
      simp only [tot]
      omega
theorem flat_tot {s : Nat → Int} {ls : Nat → List Nat} {n : Nat} (h : ∀ i, i < n → (ls i).length = (s i).toNat) : ∀ k, k ≤ n → (flat ls k).length = tot s k
  | 0, _ => by simp [flat, tot]
  | k + 1, hk => by
    rw [flat_succ, List.length_append, flat_tot h k (by omega), h k (by omega)]
    rfl
theorem flat_split (ls : Nat → List Nat) (i : Nat) : ∀ n, i < n → ∃ r, flat ls n = flat ls i ++ (ls i ++ r)
  | 0, h => by omega
  | n + 1, h => by
    by_cases e : i = n
    · subst e
      exact ⟨[], by rw [flat_succ]; simp⟩
    · obtain ⟨r, hr⟩ := flat_split ls i n (by omega)
      exact ⟨r ++ ls n, by rw [flat_succ, hr]; simp⟩
/-- The bytes of a place. -/
def seg (s : Nat → Int) (l : List Nat) (i : Nat) : List Nat := (l.drop (tot s i)).take (s i).toNat
theorem flat_seg {s : Nat → Int} {ls : Nat → List Nat} {n i : Nat} (h : ∀ i, i < n → (ls i).length = (s i).toNat) (hi : i < n) : seg s (flat ls n) i = ls i := by
  obtain ⟨r, hr⟩ := flat_split ls i n hi
  unfold seg
  rw [hr, ← flat_tot h i (by omega), List.drop_left', ← h i hi]
  · simp
  · rfl
theorem seg_flat (s : Nat → Int) (l : List Nat) : ∀ n, tot s n ≤ l.length → flat (seg s l) n = l.take (tot s n)
  | 0, _ => by simp [flat, tot]
  | n + 1, h => by
    simp only [tot] at h
    rw [flat_succ, seg_flat s l n (by omega)]
    simp only [tot]
    unfold seg
    rw [List.take_add]
theorem seg_len (s : Nat → Int) (l : List Nat) {n i : Nat} (hi : i < n) (h : tot s n ≤ l.length) : (seg s l i).length = (s i).toNat := by
  have := tot_mono s (show i + 1 ≤ n by omega)
  simp only [tot] at this
  unfold seg
  rw [List.length_take, List.length_drop]
  omega
/-- A row of numbers of 32 bits. -/
def ul (l : List Nat) : List Value := l.map fun b => .int .u32 ((b : Nat) : Int)
def uv (l : List Nat) : Nat → Value := fun i => .int .u32 ((l.getD i 0 : Nat) : Int)
theorem ul_at (l : List Nat) {i : Nat} (h : i < l.length) : (ul l)[i]? = some (uv l i) := by simp [ul, uv, h]
theorem ul_len (l : List Nat) : (ul l).length = l.length := by simp [ul]
theorem info_u32 : (Try.prog.info? 53).map (fun i => (i.zero, i.size, i.bytes)) = some (some (.int .u32 0), 1, 4) := by kernel_rfl
theorem zeros_ul (k : Nat) : (madeCells #[Value.int .u32 0] k).toList = ul (List.replicate k 0) := by
  rw [toList_madeCells_one]
  simp [ul]
def numsOf (s : Nat → Int) (l : List Nat) (n : Nat) : List Nat := (List.range n).map fun i => val (seg s l i)
theorem numsOf_len (s : Nat → Int) (l : List Nat) (n : Nat) : (numsOf s l n).length = n := by simp [numsOf]
theorem numsOf_succ (s : Nat → Int) (l : List Nat) (n : Nat) : numsOf s l (n + 1) = numsOf s l n ++ [val (seg s l n)] := by simp [numsOf, List.range_succ]
theorem numsOf_at (s : Nat → Int) (l : List Nat) {n i : Nat} (h : i < n) : (numsOf s l n).getD i 0 = val (seg s l i) := by simp [numsOf, List.getD, h]
def numErr (s : Nat → Int) (n len : Nat) : Nat := if (List.range n).all (fun i => isSz (s i)) then (if len = tot s n then 0 else 2) else 1
theorem all_iff (s : Nat → Int) (n : Nat) : (List.range n).all (fun i => isSz (s i)) = true ↔ allSz s n := by simp [allSz]
end Go.Proofs.Ytkgeeohgfbacaaa
