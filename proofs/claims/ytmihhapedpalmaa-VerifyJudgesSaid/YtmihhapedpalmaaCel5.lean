/- Layer 6: which cells can be read; which is newer; the example. -/
import Derived.Test.YtmihhapedpalmaaCel4
import Derived.Lib.SlBytesConst
namespace Go.Proofs.Ytmihhapedpalmaa
open Go.RowKit Go.Own
set_option linter.unusedVariables false
set_option linter.unusedSimpArgs false

theorem orNatJ (k : IntKind) (j : Nat) (hj : j ≤ k.bits) (hk : ∀ n : Int, 0 ≤ n → n < 2 ^ j → k.wrap n = n) (a b : Nat) (ha : a < 2 ^ j) (hb : b < 2 ^ j) : bits .or k (a : Int) (b : Int) = ((a ||| b : Nat) : Int) := by
  have hp : 2 ^ j ≤ 2 ^ k.bits := Nat.pow_le_pow_right (by decide) hj
  have ha' : a % 2 ^ k.bits = a := Nat.mod_eq_of_lt (Nat.lt_of_lt_of_le ha hp)
  have hb' : b % 2 ^ k.bits = b := Nat.mod_eq_of_lt (Nat.lt_of_lt_of_le hb hp)
  simp only [bits, BitVec.ofInt_natCast, BitVec.toNat_or, BitVec.toNat_ofNat, ha', hb']
  exact hk _ (Int.natCast_nonneg _) (by exact_mod_cast Nat.or_lt_two_pow ha hb)
theorem andNatJ (k : IntKind) (j : Nat) (hj : j ≤ k.bits) (hk : ∀ n : Int, 0 ≤ n → n < 2 ^ j → k.wrap n = n) (a b : Nat) (ha : a < 2 ^ j) (hb : b < 2 ^ j) : bits .and k (a : Int) (b : Int) = ((a &&& b : Nat) : Int) := by
  have hp : 2 ^ j ≤ 2 ^ k.bits := Nat.pow_le_pow_right (by decide) hj
  have ha' : a % 2 ^ k.bits = a := Nat.mod_eq_of_lt (Nat.lt_of_lt_of_le ha hp)
  have hb' : b % 2 ^ k.bits = b := Nat.mod_eq_of_lt (Nat.lt_of_lt_of_le hb hp)
  simp only [bits, BitVec.ofInt_natCast, BitVec.toNat_and, BitVec.toNat_ofNat, ha', hb']
  exact hk _ (Int.natCast_nonneg _) (by exact_mod_cast Nat.lt_of_le_of_lt Nat.and_le_left ha)
theorem or16 (a b : Nat) (ha : a < 65536) (hb : b < 65536) : bits .or .u16 (a : Int) (b : Int) = ((a ||| b : Nat) : Int) := orNatJ .u16 16 (by decide) wraps_u16 a b ha hb
theorem and16 (a b : Nat) (ha : a < 65536) (hb : b < 65536) : bits .and .u16 (a : Int) (b : Int) = ((a &&& b : Nat) : Int) := andNatJ .u16 16 (by decide) wraps_u16 a b ha hb
/-- A unit's own set. -/
def bit1 (i : Int) : Nat := if 0 ≤ i ∧ i < 16 then 2 ^ i.toNat else 0
theorem bit1_lt (i : Int) : bit1 i < 65536 := by
  unfold bit1
  split
  · exact Nat.lt_of_lt_of_le (Nat.pow_lt_pow_right (by decide) (show i.toNat < 16 by omega)) (by decide)
  · decide

def iv (l : List Int) : Nat → Value := fun i => .int .i64 (l.getD i 0)
/-- A set with some units. -/
def withS (s : Nat) (l : List Int) : Nat := l.foldl (fun s i => s ||| bit1 i) s
theorem withS_snoc (s : Nat) (l : List Int) (i : Int) : withS s (l ++ [i]) = withS s l ||| bit1 i := by simp [withS]
theorem withS_lt {s : Nat} (h : s < 65536) (l : List Int) : withS s l < 65536 := by
  induction l generalizing s with
  | nil => exact h
  | cons i l ih => exact ih (Nat.or_lt_two_pow (n := 16) h (bit1_lt i))
theorem takeI_succ (l : List Int) {k : Nat} (h : k < l.length) : l.take (k + 1) = l.take k ++ [l.getD k 0] := by
  rw [List.take_add_one, List.getElem?_eq_getElem h]
  simp [List.getD, h]

/-- Which of the first k can be read. -/
def gset (ls : Nat → List Nat) : Nat → Nat
  | 0 => 0
  | k + 1 => if perr (ls k) = 0 then gset ls k ||| bit1 k else gset ls k
theorem gset_lt (ls : Nat → List Nat) : ∀ k, gset ls k < 65536
  | 0 => by unfold gset; decide
  | k + 1 => by
    unfold gset
    split
    · exact Nat.or_lt_two_pow (n := 16) (gset_lt ls k) (bit1_lt k)
    · exact gset_lt ls k
theorem bit1_nat {i : Nat} (h : i < 16) : bit1 (i : Int) = 2 ^ i := by unfold bit1; rw [if_pos (by omega)]; rfl
theorem gset_bit (ls : Nat → List Nat) (i : Nat) : ∀ k, k ≤ 16 → (gset ls k).testBit i = decide (i < k ∧ perr (ls i) = 0)
  | 0, _ => by simp [gset]
  | k + 1, h => by
    have ih := gset_bit ls i k (by omega)
    unfold gset
    split
    · rename_i he
      rw [Nat.testBit_or, ih, bit1_nat (by omega), Nat.testBit_two_pow]
      by_cases hi : k = i
      · subst hi; simp [he]
      · simp only [hi, decide_false, Bool.or_false]
        congr 1
        apply propext
        constructor
        · rintro ⟨a, b⟩; exact ⟨by omega, b⟩
        · rintro ⟨a, b⟩; exact ⟨by omega, b⟩
    · rename_i he
      rw [ih]
      congr 1
      apply propext
      constructor
      · rintro ⟨a, b⟩; exact ⟨by omega, b⟩
      · rintro ⟨a, b⟩
        rcases Nat.lt_or_ge i k with h | h
        · exact ⟨h, b⟩
        · obtain rfl : i = k := by omega
          exact absurd b he
theorem and_bit (s i : Nat) : (s &&& 2 ^ i ≠ 0) ↔ s.testBit i = true := by
  constructor
  · intro h
    cases hb : s.testBit i with
    | true => rfl
    | false =>
      refine absurd (Nat.eq_of_testBit_eq fun j => ?_) h
      rw [Nat.testBit_and, Nat.testBit_two_pow, Nat.zero_testBit]
      by_cases hj : i = j
      · subst hj; rw [hb]; rfl
      · simp [hj]
  · intro h e
    have := congrArg (fun n => Nat.testBit n i) e
    simp only [Nat.testBit_and, Nat.testBit_two_pow, h, Nat.zero_testBit] at this
    simp at this
theorem gset_has (ls : Nat → List Nat) {i k : Nat} (hk : k ≤ 16) (hi : i < 16) : decide (gset ls k &&& bit1 i ≠ 0) = decide (i < k ∧ perr (ls i) = 0) := by
  rw [bit1_nat hi, ← gset_bit ls i k hk]
  simp only [and_bit, Bool.decide_eq_true]

end Go.Proofs.Ytmihhapedpalmaa
