/- Layer 16: filters: what one rule sees (pure). -/
import Derived.Test.YtkgeeohgfbacaaaLaw16
import Derived.Test.YtkgeeohgfbacaaaFlat
namespace Go.Proofs.Ytkgeeohgfbacaaa
open Go.RowKit Go.Own
set_option linter.unusedVariables false
set_option linter.unusedSimpArgs false
theorem fit_cons {w : World} {k : Leaf} {ks : List Leaf} {cs : List Value} (h : Fit w (k :: ks) cs) : ∃ v vs, cs = v :: vs ∧ k.fits w v ∧ Fit w ks vs := by
  cases cs with
  | nil => exact h.elim
  | cons v vs => exact ⟨v, vs, rfl, h.1, h.2⟩
theorem fit_nil {w : World} {cs : List Value} (h : Fit w [] cs) : cs = [] := by
  cases cs with
  | nil => rfl
  | cons v vs => exact h.elim
theorem rl_fit {w : World} {cs : List Value} (h : Fit w [.int .u8, .int .i64, .int .i32, .int .i32, .int .u32, .int .u32, .int .u8, .int .u8, .int .u8, .int .i64, .bool] cs) : ∃ r : Rl, cs.toArray = r.cs ∧ r.ok := by
  obtain ⟨_, c1, rfl, ⟨z0, rfl, k0⟩, h1⟩ := fit_cons h
  obtain ⟨_, c2, rfl, ⟨z1, rfl, k1⟩, h2⟩ := fit_cons h1
  obtain ⟨_, c3, rfl, ⟨z2, rfl, k2⟩, h3⟩ := fit_cons h2
  obtain ⟨_, c4, rfl, ⟨z3, rfl, k3⟩, h4⟩ := fit_cons h3
  obtain ⟨_, c5, rfl, ⟨z4, rfl, k4⟩, h5⟩ := fit_cons h4
  obtain ⟨_, c6, rfl, ⟨z5, rfl, k5⟩, h6⟩ := fit_cons h5
  obtain ⟨_, c7, rfl, ⟨z6, rfl, k6⟩, h7⟩ := fit_cons h6
  obtain ⟨_, c8, rfl, ⟨z7, rfl, k7⟩, h8⟩ := fit_cons h7
  obtain ⟨_, c9, rfl, ⟨z8, rfl, k8⟩, h9⟩ := fit_cons h8
  obtain ⟨_, c10, rfl, ⟨z9, rfl, k9⟩, h10⟩ := fit_cons h9
  obtain ⟨_, c11, rfl, ⟨t, rfl⟩, h11⟩ := fit_cons h10
  obtain rfl := fit_nil h11
  have b0 := bounds_u8 k0
  have b1 := bounds_i64 k1
  have b2 := bounds_i32 k2
  have b3 := bounds_i32 k3
  have b4 := bounds_u32 k4
  have b5 := bounds_u32 k5
  have b6 := bounds_u8 k6
  have b7 := bounds_u8 k7
  have b8 := bounds_u8 k8
  have b9 := bounds_i64 k9
  obtain ⟨m, rfl⟩ := Int.eq_ofNat_of_zero_le b4.1
  obtain ⟨n, rfl⟩ := Int.eq_ofNat_of_zero_le b5.1
  exact ⟨⟨⟨z0, z1, z2, z3, m, n⟩, z6, z7, z8, z9, t⟩, rfl, ⟨⟨b0.1, b0.2, b1.1, b1.2, b2.1, b2.2, b3.1, b3.2, by show m < _; omega, by show n < _; omega⟩, b6.1, b6.2, b7.1, b7.2, b8.1, b8.2, b9.1, b9.2⟩⟩
/-- The law's rule. -/
def rG (good R ev : Int) : Rl := ⟨⟨0, 2, good, good, 0, 0⟩, R, ev, 0, -1, true⟩
def badS (good bad : Int) : Int := if bad < good then 2 else 3
theorem look_good (good : Int) (b : Int) (f : Bool) : (Df.mk 0 2 good good 0 0).look good b f = 1 := (look_lim (by decide) (by decide) (Int.le_refl _)).trans (lim_in (Int.le_refl _) (Int.le_refl _))
theorem look_bad {good bad : Int} (h : good ≠ bad) (b : Int) (f : Bool) : (Df.mk 0 2 good good 0 0).look bad b f = badS good bad := by
  rw [look_lim (by decide) (by decide) (Int.le_refl _)]
  unfold badS
  by_cases e : bad < good
  · rw [if_pos e, lim_lo e]
  · rw [if_neg e, lim_hi (by omega) (by omega)]
theorem badS_23 (good bad : Int) : badS good bad = 2 ∨ badS good bad = 3 := by
  unfold badS
  split
  · exact .inl rfl
  · exact .inr rfl
variable {good bad R ev : Int}
/-- Behind k steps with a good value. -/
def gK (good R ev : Int) (k : Nat) : Wt := if k = 0 then ⟨rG good R ev, false, 0, 0, 0, 0⟩ else ⟨rG good R ev, true, good, 1, min (k : Int) R, if R ≤ k then 1 else 0⟩
/-- Behind j steps with a bad value. -/
def bK (good bad R ev : Int) (j : Nat) : Wt := if j = 0 then ⟨rG good R ev, true, good, 1, R, 1⟩ else ⟨rG good R ev, true, bad, badS good bad, j, 1⟩
def zK (good bad R ev : Int) : Wt := ⟨rG good R ev, true, bad, badS good bad, R, badS good bad⟩
theorem wt_ext (r : Rl) (any : Bool) (val cand times st now f t s : Int) (hf : r.d.look now val (!any) = f) (ht : timesOf cand times f r.rep = t) (hs : (if t = r.rep then f else st) = s) : (Wt.mk r any val cand times st).step now = ⟨r, true, now, f, t, s⟩ := by
  have e : (Wt.mk r any val cand times st).look now = f := hf
  unfold Wt.step
  simp only [e, ht, hs]
theorem gK_step (h1 : 1 ≤ R) (k : Nat) : (gK good R ev k).step good = gK good R ev (k + 1) := by
  by_cases hk : k = 0
  · subst hk
    have e : gK good R ev 0 = ⟨rG good R ev, false, 0, 0, 0, 0⟩ := if_pos rfl
    rw [e, wt_ext (rG good R ev) false 0 0 0 0 good 1 1 (if R ≤ 1 then 1 else 0) (look_good good 0 true) (by show (if (1 : Int) = 0 then (0 : Int) else if (1 : Int) = 0 then min 0 (R - 1) + 1 else 1) = 1; rw [if_neg (by decide), if_neg (by decide)]) (by
      show (if (1 : Int) = R then (1 : Int) else 0) = _
      by_cases e : R = 1
      · rw [if_pos e.symm, if_pos (by omega)]
      · rw [if_neg (by omega), if_neg (by omega)])]
    have e2 : gK good R ev (0 + 1) = ⟨rG good R ev, true, good, 1, min ((0 + 1 : Nat) : Int) R, if R ≤ ((0 + 1 : Nat) : Int) then 1 else 0⟩ := if_neg (by omega)
    rw [e2]
    (simp only [Wt.mk.injEq, true_and, and_true]; first | omega | (refine ⟨by omega, ?_⟩; first | rfl | (split <;> split <;> omega)))
  · have e : gK good R ev k = ⟨rG good R ev, true, good, 1, min (k : Int) R, if R ≤ k then 1 else 0⟩ := if_neg hk
    rw [e, wt_ext (rG good R ev) true good 1 (min (k : Int) R) (if R ≤ k then 1 else 0) good 1 (min ((k : Int) + 1) R) (if R ≤ (k : Int) + 1 then 1 else 0) (look_good good good false) (by
      show (if (1 : Int) = 0 then (0 : Int) else if (1 : Int) = 1 then min (min (k : Int) R) (R - 1) + 1 else 1) = _
      rw [if_neg (by decide), if_pos rfl]; omega) (by
      show (if min ((k : Int) + 1) R = R then (1 : Int) else if R ≤ k then 1 else 0) = _
      by_cases e : R ≤ (k : Int) + 1
      · rw [if_pos (by omega), if_pos e]
      · rw [if_neg (by omega), if_neg (by omega), if_neg e])]
    have e2 : gK good R ev (k + 1) = ⟨rG good R ev, true, good, 1, min ((k + 1 : Nat) : Int) R, if R ≤ ((k + 1 : Nat) : Int) then 1 else 0⟩ := if_neg (by omega)
    rw [e2]
    (simp only [Wt.mk.injEq, true_and, and_true]; first | omega | (refine ⟨by omega, ?_⟩; first | rfl | (split <;> split <;> omega)))
theorem gK_end (n : Nat) (hn : R ≤ (n : Int)) (h1 : 1 ≤ R) : gK good R ev n = bK good bad R ev 0 := by
  unfold gK bK
  rw [if_neg (by omega), if_pos rfl, if_pos hn]
  (simp only [Wt.mk.injEq, true_and, and_true]; first | omega | (refine ⟨by omega, ?_⟩; first | rfl | (split <;> split <;> omega)))
theorem bK_step (hne : good ≠ bad) {j : Nat} (hj : (j : Int) + 1 < R) : (bK good bad R ev j).step bad = bK good bad R ev (j + 1) := by
  have h23 := badS_23 good bad
  by_cases hk : j = 0
  · subst hk
    have e : bK good bad R ev 0 = ⟨rG good R ev, true, good, 1, R, 1⟩ := if_pos rfl
    rw [e, wt_ext (rG good R ev) true good 1 R 1 bad (badS good bad) 1 1 (look_bad hne good false) (by
      show (if badS good bad = 0 then (0 : Int) else if badS good bad = 1 then min R (R - 1) + 1 else 1) = _
      rw [if_neg (by omega), if_neg (by omega)]) (by
      show (if (1 : Int) = R then badS good bad else 1) = 1
      rw [if_neg (by omega)])]
    unfold bK
    rw [if_neg (by omega)]
    rfl
  · have e : bK good bad R ev j = ⟨rG good R ev, true, bad, badS good bad, j, 1⟩ := if_neg hk
    rw [e, wt_ext (rG good R ev) true bad (badS good bad) j 1 bad (badS good bad) ((j : Int) + 1) 1 (look_bad hne bad false) (by
      show (if badS good bad = 0 then (0 : Int) else if badS good bad = badS good bad then min (j : Int) (R - 1) + 1 else 1) = _
      rw [if_neg (by omega), if_pos rfl]; omega) (by
      show (if (j : Int) + 1 = R then badS good bad else 1) = 1
      rw [if_neg (by omega)])]
    unfold bK
    rw [if_neg (by omega)]
    (simp only [Wt.mk.injEq, true_and, and_true]; first | omega | (refine ⟨by omega, ?_⟩; first | rfl | (split <;> split <;> omega)))
theorem bK_good (hne : good ≠ bad) (h1 : 1 ≤ R) (j : Nat) (hj : (j : Int) + 1 = R) : ((bK good bad R ev j).step good).st = 1 := by
  have h23 := badS_23 good bad
  by_cases hk : j = 0
  · have e : bK good bad R ev j = ⟨rG good R ev, true, good, 1, R, 1⟩ := if_pos hk
    rw [e]
    show (if timesOf 1 R ((Df.mk 0 2 good good 0 0).look good good false) R = R then (Df.mk 0 2 good good 0 0).look good good false else 1) = 1
    rw [look_good]
    split <;> rfl
  · have e : bK good bad R ev j = ⟨rG good R ev, true, bad, badS good bad, j, 1⟩ := if_neg hk
    rw [e]
    show (if timesOf (badS good bad) j ((Df.mk 0 2 good good 0 0).look good bad false) R = R then (Df.mk 0 2 good good 0 0).look good bad false else 1) = 1
    rw [look_good]
    split <;> rfl
theorem bK_bad (hne : good ≠ bad) (h1 : 1 ≤ R) (j : Nat) (hj : (j : Int) + 1 = R) : (bK good bad R ev j).step bad = zK good bad R ev := by
  have h23 := badS_23 good bad
  by_cases hk : j = 0
  · have e : bK good bad R ev j = ⟨rG good R ev, true, good, 1, R, 1⟩ := if_pos hk
    rw [e, wt_ext (rG good R ev) true good 1 R 1 bad (badS good bad) R (badS good bad) (look_bad hne good false) (by
      show (if badS good bad = 0 then (0 : Int) else if badS good bad = 1 then min R (R - 1) + 1 else 1) = _
      rw [if_neg (by omega), if_neg (by omega)]; omega) (if_pos rfl)]
    rfl
  · have e : bK good bad R ev j = ⟨rG good R ev, true, bad, badS good bad, j, 1⟩ := if_neg hk
    rw [e, wt_ext (rG good R ev) true bad (badS good bad) j 1 bad (badS good bad) R (badS good bad) (look_bad hne bad false) (by
      show (if badS good bad = 0 then (0 : Int) else if badS good bad = badS good bad then min (j : Int) (R - 1) + 1 else 1) = _
      rw [if_neg (by omega), if_pos rfl]; omega) (if_pos rfl)]
    rfl
theorem zK_step (hne : good ≠ bad) (h1 : 1 ≤ R) : (zK good bad R ev).step bad = zK good bad R ev := by
  have h23 := badS_23 good bad
  rw [show zK good bad R ev = ⟨rG good R ev, true, bad, badS good bad, R, badS good bad⟩ from rfl, wt_ext (rG good R ev) true bad (badS good bad) R (badS good bad) bad (badS good bad) R (badS good bad) (look_bad hne bad false) (by
      show (if badS good bad = 0 then (0 : Int) else if badS good bad = badS good bad then min R (R - 1) + 1 else 1) = _
      rw [if_neg (by omega), if_pos rfl]; omega) (if_pos rfl)]
theorem rG_ok (g0 : -2147483648 ≤ good) (g1 : good ≤ 2147483647) (h1 : 1 ≤ R) (h2 : R ≤ 255) (e0 : 0 ≤ ev) (e1 : ev ≤ 255) : (rG good R ev).ok ∧ (rG good R ev).right = true := by
  constructor
  · refine ⟨⟨?_, ?_, ?_, ?_, ?_, ?_, ?_, ?_, ?_, ?_⟩, ?_, ?_, ?_, ?_, ?_, ?_, ?_, ?_⟩ <;> simp only [rG] <;> omega
  · simp [Rl.right, Df.right, rG, h1]
theorem gK_ok (g0 : -2147483648 ≤ good) (g1 : good ≤ 2147483647) (h1 : 1 ≤ R) (h2 : R ≤ 255) (e0 : 0 ≤ ev) (e1 : ev ≤ 255) (k : Nat) : (gK good R ev k).ok := by
  obtain ⟨ho, hr⟩ := rG_ok g0 g1 h1 h2 e0 e1
  induction k with
  | zero =>
    show (Wt.mk (rG good R ev) false 0 0 0 0).ok
    refine ⟨ho, hr, ?_, ?_, ?_, ?_, ?_, ?_, ?_, ?_⟩ <;> simp only [] <;> omega
  | succ k ih => rw [← gK_step h1]; exact Wt.step_ok ih g0 g1
theorem bK_ok (g0 : -2147483648 ≤ good) (g1 : good ≤ 2147483647) (b0 : -2147483648 ≤ bad) (b1 : bad ≤ 2147483647) (h1 : 1 ≤ R) (h2 : R ≤ 255) (e0 : 0 ≤ ev) (e1 : ev ≤ 255) (j : Nat) (hj : (j : Int) ≤ 255) : (bK good bad R ev j).ok := by
  obtain ⟨ho, hr⟩ := rG_ok g0 g1 h1 h2 e0 e1
  have h23 := badS_23 good bad
  unfold bK
  split
  · exact ⟨ho, hr, g0, g1, by show (0 : Int) ≤ 1; decide, by show (1 : Int) ≤ 4; decide, by show 0 ≤ R; omega, h2, by show (0 : Int) ≤ 1; decide, by show (1 : Int) ≤ 4; decide⟩
  · exact ⟨ho, hr, b0, b1, by show 0 ≤ badS good bad; omega, by show badS good bad ≤ 4; omega, by show 0 ≤ (j : Int); omega, hj, by show (0 : Int) ≤ 1; decide, by show (1 : Int) ≤ 4; decide⟩
theorem zK_ok (g0 : -2147483648 ≤ good) (g1 : good ≤ 2147483647) (b0 : -2147483648 ≤ bad) (b1 : bad ≤ 2147483647) (h1 : 1 ≤ R) (h2 : R ≤ 255) (e0 : 0 ≤ ev) (e1 : ev ≤ 255) : (zK good bad R ev).ok := by
  obtain ⟨ho, hr⟩ := rG_ok g0 g1 h1 h2 e0 e1
  have h23 := badS_23 good bad
  exact ⟨ho, hr, b0, b1, by show 0 ≤ badS good bad; omega, by show badS good bad ≤ 4; omega, by show 0 ≤ R; omega, h2, by show 0 ≤ badS good bad; omega, by show badS good bad ≤ 4; omega⟩
end Go.Proofs.Ytkgeeohgfbacaaa
