/- StrapChooses. -/
import Derived.Test.YtioclbkgfbjpdaaLaw18m
import Derived.Test.YtioclbkgfbjpdaaLaw18a
namespace Go.Proofs.Ytioclbkgfbjpdaa
open Go.RowKit Go.Own Bs
set_option linter.unusedVariables false
set_option linter.unusedSimpArgs false
theorem bits8_set : ∀ x, x < 256 → ∀ j, j < 8 → x.testBit j = false → bits8 (x ||| 2 ^ j) = bits8 x + 1 := by decide +kernel
theorem pow_lo : ∀ u, u < 8 → 2 ^ u / 256 = 0 ∧ 2 ^ u % 256 = 2 ^ u := by decide
theorem pow_hi : ∀ u, u < 8 → 2 ^ (u + 8) / 256 = 2 ^ u ∧ 2 ^ (u + 8) % 256 = 0 := by decide
theorem bits16_set {s u : Nat} (hs : s < 65536) (hu : u < 16) (h : has s u = false) : bits16 (s ||| 2 ^ u) = bits16 s + 1 := by
  have hb : s.testBit u = false := by
    rw [has_div _ _ hu] at h
    rw [Nat.testBit_eq_decide_div_mod_eq]
    exact h
  unfold bits16
  have e1 : (s ||| 2 ^ u) / 256 = s / 256 ||| 2 ^ u / 256 := by
    rw [show 256 = 2 ^ 8 by rfl, ← Nat.shiftRight_eq_div_pow, ← Nat.shiftRight_eq_div_pow, ← Nat.shiftRight_eq_div_pow, Nat.shiftRight_or_distrib]
  have e2 : (s ||| 2 ^ u) % 256 = s % 256 ||| 2 ^ u % 256 := by
    rw [show 256 = 2 ^ 8 by rfl, Nat.or_mod_two_pow]
  rw [e1, e2]
  rcases Nat.lt_or_ge u 8 with h8 | h8
  · obtain ⟨p1, p2⟩ := pow_lo u h8
    have hb2 : (s % 256).testBit u = false := by
      rw [show 256 = 2 ^ 8 by rfl, Nat.testBit_mod_two_pow, hb]
      simp
    rw [p1, p2, Nat.or_zero, bits8_set _ (by omega) u h8 hb2]
    omega
  · obtain ⟨t, rfl⟩ : ∃ t, u = t + 8 := ⟨u - 8, by omega⟩
    obtain ⟨p1, p2⟩ := pow_hi t (by omega)
    have hb2 : (s / 256).testBit t = false := by
      rw [show 256 = 2 ^ 8 by rfl, Nat.testBit_div_two_pow]
      exact hb
    rw [p1, p2, Nat.or_zero, bits8_set _ (by omega) t (by omega) hb2]
    omega
/-- The wheels that may be chosen, one after the other. -/
def takes (bad : Nat) (g : List Int) (y : Int) : Bool := decide (0 ≤ y) && decide (y < 16) && !hasI bad y && !decide (y ∈ g)
def goodL (bad : Nat) (x : Nat → Int) : Nat → List Int
  | 0 => []
  | k + 1 => if takes bad (goodL bad x k) (x k) = true then goodL bad x k ++ [x k] else goodL bad x k
theorem withS_snoc (s : Nat) (g : List Int) (y : Int) : withS s (g ++ [y]) = withS s g ||| bit1 y := by simp [withS]
theorem bit1_nat {u : Nat} (hu : u < 16) : bit1 ((u : Nat) : Int) = 2 ^ u := by
  unfold bit1
  rw [if_pos ⟨by omega, by omega⟩]
  simp
theorem has_pow {u v : Nat} (hu : u < 16) (hv : v < 16) : has (2 ^ u) v = decide (u = v) := by
  rw [has_div _ _ hv, ← Nat.testBit_eq_decide_div_mod_eq, Nat.testBit_two_pow]
structure GoodI (g : List Int) : Prop where
  rng : ∀ y ∈ g, 0 ≤ y ∧ y < 16
  lt : withS 0 g < 65536
  has_ : ∀ u, u < 16 → has (withS 0 g) u = decide (((u : Nat) : Int) ∈ g)
  cnt : bits16 (withS 0 g) = g.length
theorem GoodI.nil : GoodI [] := ⟨by simp, by decide, fun u hu => by simp [withS, has], by decide⟩
theorem GoodI.snoc {g : List Int} (h : GoodI g) {y : Int} (h0 : 0 ≤ y) (h1 : y < 16) (hn : y ∉ g) : GoodI (g ++ [y]) := by
  obtain ⟨u, rfl⟩ := Int.eq_ofNat_of_zero_le h0
  have hu : u < 16 := by omega
  have hb := bit1_nat hu
  refine ⟨fun z hz => ?_, ?_, fun v hv => ?_, ?_⟩
  · rcases List.mem_append.1 hz with hz | hz
    · exact h.rng z hz
    · rw [List.mem_singleton.1 hz]; exact ⟨h0, h1⟩
  · rw [withS_snoc]; exact Nat.or_lt_two_pow (n := 16) h.lt (bit1_lt _)
  · rw [withS_snoc, hb, has_or _ _ _ hv, h.has_ v hv, has_pow hu hv]
    rw [← Bool.decide_or]
    refine decide_eq_decide.2 ?_
    rw [List.mem_append, List.mem_singleton]
    constructor
    · rintro (h | h)
      · exact .inl h
      · exact .inr (by omega)
    · rintro (h | h)
      · exact .inl h
      · exact .inr (by omega)
  · rw [withS_snoc, hb, bits16_set h.lt hu (by rw [h.has_ u hu]; exact decide_eq_false hn), h.cnt, List.length_append]
    rfl
theorem good_inv (bad : Nat) (x : Nat → Int) : ∀ k, GoodI (goodL bad x k)
  | 0 => GoodI.nil
  | k + 1 => by
    have ih := good_inv bad x k
    unfold goodL
    split
    · rename_i h
      unfold takes at h
      simp only [Bool.and_eq_true, decide_eq_true_iff, Bool.not_eq_true', decide_eq_false_iff_not] at h
      exact ih.snoc h.1.1.1 h.1.1.2 h.2
    · exact ih
theorem next_good {bad : Nat} (hb : bad < 65536) {g : List Int} (hg : GoodI g) (y : Int) : nextW bad (withS 0 g) y = if takes bad g y = true then withS 0 (g ++ [y]) else withS 0 g := by
  unfold nextW
  by_cases hr : 0 ≤ y ∧ y < 16
  · obtain ⟨u, rfl⟩ := Int.eq_ofNat_of_zero_le hr.1
    have hu : u < 16 := by omega
    have hbt := bit1_nat hu
    have key : bit1 ((u : Nat) : Int) &&& (65535 - bad) = if has bad u = true then 0 else 2 ^ u := by
      rw [hbt]
      refine Nat.eq_of_testBit_eq fun i => ?_
      rw [Nat.testBit_and, Nat.testBit_two_pow, show 65535 - bad = 2 ^ 16 - (bad + 1) by omega, Nat.testBit_two_pow_sub_succ hb]
      have hh : has bad u = bad.testBit u := by rw [has_div _ _ hu, Nat.testBit_eq_decide_div_mod_eq]
      rw [hh]
      by_cases e : u = i
      · subst e
        cases hbi : bad.testBit u
        · rw [if_neg (by simp), Nat.testBit_two_pow]; simp [hu]
        · rw [if_pos rfl]; simp
      · cases hbi : bad.testBit u
        · rw [if_neg (by simp), Nat.testBit_two_pow]; simp [e]
        · rw [if_pos rfl]; simp [e]
    rw [key]
    unfold takes
    rw [hasI_nat, decide_eq_true (by omega : (0 : Int) ≤ ((u : Nat) : Int)), decide_eq_true (by omega : ((u : Nat) : Int) < 16)]
    cases hbu : has bad u
    · by_cases hm : ((u : Nat) : Int) ∈ g
      · rw [if_neg (by simp), if_neg (by simp [hm])]
        have : has (withS 0 g) u = true := by rw [hg.has_ u hu]; exact decide_eq_true hm
        refine Nat.eq_of_testBit_eq fun i => ?_
        rw [Nat.testBit_or, Nat.testBit_two_pow]
        by_cases e : u = i
        · subst e
          have : (withS 0 g).testBit u = true := by rw [has_div _ _ hu] at this; rw [Nat.testBit_eq_decide_div_mod_eq]; exact this
          simp [this]
        · simp [e]
      · rw [if_neg (by simp), if_pos (by simp [hm]), withS_snoc, hbt]
    · rw [if_pos rfl, if_neg (by simp), Nat.or_zero]
  · have e : bit1 y = 0 := by unfold bit1; rw [if_neg hr]
    have e2 : takes bad g y = false := by
      unfold takes
      by_cases h1 : 0 ≤ y
      · have h2 : ¬ y < 16 := fun h => hr ⟨h1, h⟩
        simp [h2]
      · simp [h1]
    rw [e, Nat.zero_and, Nat.or_zero, e2, if_neg (by simp)]
theorem good_mono (bad : Nat) (x : Nat → Int) (k : Nat) : ∀ m, ∃ t, goodL bad x (k + m) = goodL bad x k ++ t
  | 0 => ⟨[], by simp⟩
  | m + 1 => by
    obtain ⟨t, ht⟩ := good_mono bad x k m
    have e : goodL bad x (k + (m + 1)) = if takes bad (goodL bad x (k + m)) (x (k + m)) = true then goodL bad x (k + m) ++ [x (k + m)] else goodL bad x (k + m) := rfl
    rw [e]
    split
    · exact ⟨t ++ [x (k + m)], by rw [ht, List.append_assoc]⟩
    · exact ⟨t, ht⟩
theorem three_is {bad : Nat} (hb : bad < 65536) (x : Nat → Int) : ∀ m k, (goodL bad x k).length < 3 → threeR bad x m k (withS 0 (goodL bad x k)) = if 3 ≤ (goodL bad x (k + m)).length then (withS 0 ((goodL bad x (k + m)).take 3), true) else (0, false)
  | 0, k, h => by
    rw [Nat.add_zero, if_neg (by omega)]
    rfl
  | m + 1, k, h => by
    have hi := good_inv bad x (k + 1)
    have hn := next_good hb (good_inv bad x k) (x k)
    have e : nextW bad (withS 0 (goodL bad x k)) (x k) = withS 0 (goodL bad x (k + 1)) := by
      rw [hn]
      show _ = withS 0 (if takes bad (goodL bad x k) (x k) = true then _ else _)
      split <;> rfl
    have hc : cntS (withS 0 (goodL bad x (k + 1))) = (((goodL bad x (k + 1)).length : Nat) : Int) := by rw [cnt_bits hi.lt, hi.cnt]
    have hl : (goodL bad x (k + 1)).length ≤ (goodL bad x k).length + 1 := by
      show (if takes bad (goodL bad x k) (x k) = true then _ else _ : List Int).length ≤ _
      split <;> simp
    show (if cntS (nextW bad _ (x k)) = 3 then (nextW bad _ (x k), true) else threeR bad x m (k + 1) (nextW bad _ (x k))) = _
    rw [e, hc]
    obtain ⟨t, ht⟩ := good_mono bad x (k + 1) m
    rw [show k + 1 + m = k + (m + 1) by omega] at ht
    by_cases h3 : (goodL bad x (k + 1)).length = 3
    · rw [if_pos (by omega), ht, if_pos (by rw [List.length_append]; omega), ← h3, List.take_left]
    · rw [if_neg (by omega), three_is hb x m (k + 1) (by omega), show k + 1 + m = k + (m + 1) by omega]
end Go.Proofs.Ytioclbkgfbjpdaa
