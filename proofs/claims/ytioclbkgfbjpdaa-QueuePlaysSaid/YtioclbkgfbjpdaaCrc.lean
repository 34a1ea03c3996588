/- Contracts of package crc and of the document's own sum. -/
import Derived.Test.YtioclbkgfbjpdaaCrcPlain
import Derived.Test.YtioclbkgfbjpdaaByt
import Derived.Test.YtioclbkgfbjpdaaFlo
import Derived.Lib.EndianBits
import Derived.Deep.WholeRow
import Derived.Laws.CopyOwn
namespace Go.Proofs.Ytioclbkgfbjpdaa
open Go.RowKit Go.Own
set_option linter.unusedVariables false
set_option linter.unusedSimpArgs false

theorem xorNatJ (k : IntKind) (j : Nat) (hj : j ≤ k.bits) (hk : ∀ n : Int, 0 ≤ n → n < 2 ^ j → k.wrap n = n) (a b : Nat) (ha : a < 2 ^ j) (hb : b < 2 ^ j) : bits .xor k (a : Int) (b : Int) = ((a ^^^ b : Nat) : Int) := by
  have hp : 2 ^ j ≤ 2 ^ k.bits := Nat.pow_le_pow_right (by decide) hj
  have ha' : a % 2 ^ k.bits = a := Nat.mod_eq_of_lt (Nat.lt_of_lt_of_le ha hp)
  have hb' : b % 2 ^ k.bits = b := Nat.mod_eq_of_lt (Nat.lt_of_lt_of_le hb hp)
  simp only [bits, BitVec.ofInt_natCast, BitVec.toNat_xor, BitVec.toNat_ofNat, ha', hb']
  exact hk _ (Int.natCast_nonneg _) (by exact_mod_cast Nat.xor_lt_two_pow ha hb)
theorem xorNat (k : IntKind) (hk : ∀ n : Int, 0 ≤ n → n < 2 ^ k.bits → k.wrap n = n) (a b : Nat) (ha : a < 2 ^ k.bits) (hb : b < 2 ^ k.bits) : bits .xor k (a : Int) (b : Int) = ((a ^^^ b : Nat) : Int) := xorNatJ k k.bits (Nat.le_refl _) hk a b ha hb
theorem wraps_i64_16 (n : Int) (h0 : 0 ≤ n) (h1 : n < 2 ^ 16) : IntKind.i64.wrap n = n := by rw [IntKind.wrap_i64]; omega
theorem xor64 (a b : Nat) (ha : a < 65536) (hb : b < 65536) : bits .xor .i64 (a : Int) (b : Int) = ((a ^^^ b : Nat) : Int) := xorNatJ .i64 16 (by decide) wraps_i64_16 a b ha hb
theorem xor16 (a b : Nat) (ha : a < 65536) (hb : b < 65536) : bits .xor .u16 (a : Int) (b : Int) = ((a ^^^ b : Nat) : Int) := xorNat .u16 wraps_u16 a b ha hb
theorem xor8 (a b : Nat) (ha : a < 256) (hb : b < 256) : bits .xor .u8 (a : Int) (b : Int) = ((a ^^^ b : Nat) : Int) := xorNat .u8 wraps_u8 a b ha hb
theorem step_start (s b : Nat) (hs : s < 65536) (hb : b < 256) : bits .xor .u16 (s : Int) ((b : Int) * 256) = ((s ^^^ b * 256 : Nat) : Int) := by
  rw [← xor16 s (b * 256) hs (by omega)]; simp
theorem f_int (s : Nat) (hs : s < 65536) : bits .xor .u16 (IntKind.u16.wrap ((s : Int) * 2)) ((s : Int) / 32768 * 4129) = ((Cr.f s : Nat) : Int) := by
  unfold Cr.f
  have h1 : s / 32768 * 4129 < 65536 := by omega
  rw [← xor16 (s * 2 % 65536) (s / 32768 * 4129) (by omega) h1, IntKind.wrap_u16]
  congr 1
theorem fs_succ' (k s : Nat) : Cr.fs (k + 1) s = Cr.f (Cr.fs k s) := Cr.fs_add k 1 s

/-- The table's cells. -/
def tabV : Array Value := ((List.range 256).map fun i => Value.int .u16 (Cr.step 0 i : Nat)).toArray
theorem tabV_size : tabV.size = 256 := by simp [tabV]
theorem tabV_at (i : Nat) (h : i < 256) : tabV[i]? = some (.int .u16 (Cr.step 0 i : Nat)) := by simp [tabV, h]
attribute [irreducible] tabV

theorem table_int (s b : Nat) (hs : s < 65536) (hb : b < 256) : bits .xor .u16 (IntKind.u16.wrap ((s : Int) * 256)) ((Cr.step 0 (s / 256 ^^^ b) : Nat) : Int) = ((Cr.step s b : Nat) : Int) := by
  have h1 : s / 256 ^^^ b < 256 := Nat.xor_lt_two_pow (n := 8) (by omega) hb
  rw [Cr.step_table s b hs hb, ← xor16 _ _ (by omega) (Cr.step_lt 0 _ (by omega) h1), IntKind.wrap_u16]
  congr 1

/-- Parts one behind another: what has come till part k. -/
theorem sum_flat (ls : Nat → List Nat) (k : Nat) : Cr.sum (flat ls (k + 1)) = Cr.sumFrom (Cr.sum (flat ls k)) (ls k) := by
  rw [flat_succ, Cr.sum_append]
theorem sumFrom_take (s : Nat) (l : List Nat) (j : Nat) (h : j < l.length) : Cr.sumFrom s (l.take (j + 1)) = Cr.step (Cr.sumFrom s (l.take j)) (l.getD j 0) := by
  rw [take_succ l h, Cr.sumFrom_append]; rfl
theorem flat_bytes {ls : Nat → List Nat} {k : Nat} (h : ∀ i, i < k → bytes (ls i)) : bytes (flat ls k) := by
  intro b hb
  simp only [flat, List.mem_flatMap, List.mem_range] at hb
  obtain ⟨i, hi, hb⟩ := hb
  exact h i hi b hb

/-- The table while it is filled. -/
def rowV (k : Nat) : Array Value := ((List.range 256).map fun i => if i < k then Value.int .u16 (Cr.step 0 i : Nat) else .int .u16 0).toArray
theorem rowV_size (k : Nat) : (rowV k).size = 256 := by simp [rowV]
theorem rowV_all : rowV 256 = tabV := by
  unfold rowV tabV
  refine congrArg List.toArray (List.map_congr_left fun i hi => ?_)
  rw [if_pos (List.mem_range.1 hi)]
def entV (k i : Nat) : Value := if i < k then .int .u16 (Cr.step 0 i : Nat) else .int .u16 0
theorem rowV_get (k i : Nat) : (rowV k)[i]? = if i < 256 then some (entV k i) else none := by
  unfold rowV
  rw [List.getElem?_toArray, List.getElem?_map]
  by_cases h : i < 256
  · rw [List.getElem?_range h, if_pos h]; rfl
  · rw [if_neg h, List.getElem?_eq_none (by rw [List.length_range]; omega)]; rfl
theorem rowV_set (k : Nat) : (rowV k).setIfInBounds k (.int .u16 (Cr.step 0 k : Nat)) = rowV (k + 1) := by
  apply Array.ext_getElem?
  intro i
  rw [Array.getElem?_setIfInBounds, rowV_get, rowV_get, rowV_size]
  by_cases hk : k = i
  · subst hk
    rw [if_pos rfl]
    unfold entV
    rw [if_pos (Nat.lt_succ_self k)]
  · rw [if_neg hk]
    have e : entV k i = entV (k + 1) i := by
      unfold entV
      by_cases h1 : i < k
      · have h2 : i < k + 1 := by omega
        rw [if_pos h1, if_pos h2]
      · have h2 : ¬ i < k + 1 := by omega
        rw [if_neg h1, if_neg h2]
    rw [e]
theorem rowV_one (k : Nat) : (rowV k).all (·.oneCell') = true := by
  rw [Array.all_eq_true_iff_forall_mem]
  intro x hx
  simp only [rowV, List.mem_toArray, List.mem_map] at hx
  obtain ⟨i, _, rfl⟩ := hx
  split <;> rfl
theorem rowV_at (k i : Nat) (h : i < 256) : ∃ v, (rowV k)[i]? = some (.int .u16 v) := by
  rw [rowV_get, if_pos h]
  unfold entV
  split
  · exact ⟨_, rfl⟩
  · exact ⟨_, rfl⟩
attribute [irreducible] rowV
theorem feed_succ (n v b : Nat) : Cr.feed (n + 1) v b = Cr.feed n (Cr.bitStep v (b / 2 ^ n % 2)) b := rfl
theorem bit_yes (v b n : Nat) (h : (b / 2 ^ n % 2 + v / 32768) % 2 = 1) : Cr.bitStep v (b / 2 ^ n % 2) = (v * 2 % 65536) ^^^ 4129 := if_pos h
theorem bit_no (v b n : Nat) (h : ¬ (b / 2 ^ n % 2 + v / 32768) % 2 = 1) : Cr.bitStep v (b / 2 ^ n % 2) = v * 2 % 65536 := if_neg h
end Go.Proofs.Ytioclbkgfbjpdaa
