/- Plain mathematics of the fixed-point layer. No Go in sight. -/
namespace Fx

/-- saturated to 32 bits -/
def sat (n : Int) : Int := if 2147483647 < n then 2147483647 else if n < -2147483648 then -2147483648 else n

theorem sat_lo (n : Int) : -2147483648 ≤ sat n := by unfold sat; split <;> (try split) <;> omega
theorem sat_hi (n : Int) : sat n ≤ 2147483647 := by unfold sat; split <;> (try split) <;> omega
theorem sat_id (n : Int) (h : -2147483648 ≤ n) (h' : n ≤ 2147483647) : sat n = n := by unfold sat; rw [if_neg (by omega), if_neg (by omega)]
theorem sat_mono {a b : Int} (h : a ≤ b) : sat a ≤ sat b := by unfold sat; split <;> split <;> (try split) <;> (try split) <;> omega

/-- clamped -/
def clamp (a low high : Int) : Int := if a < low then low else if high < a then high else a

/-- the number of fraction bits -/
def fb (q : Int) : Int := max 0 (min q 31)
theorem fb_lo (q : Int) : 0 ≤ fb q := by unfold fb; omega
theorem fb_hi (q : Int) : fb q ≤ 31 := by unfold fb; omega

/-- 2 to the power q, q limited to 0 .. 31 -/
def pw (q : Int) : Int := 2 ^ (fb q).toNat

def sum (l : List Int) : Int := l.foldl (· + ·) 0
theorem foldl_add (l : List Int) (a : Int) : l.foldl (· + ·) a = a + l.foldl (· + ·) 0 := by
  induction l generalizing a with
  | nil => simp
  | cons x l ih => simp only [List.foldl_cons]; rw [ih, ih (0 + x)]; omega
theorem sum_nil : sum [] = 0 := rfl
theorem sum_snoc (l : List Int) (a : Int) : sum (l ++ [a]) = sum l + a := by simp [sum]
theorem sum_cons (l : List Int) (a : Int) : sum (a :: l) = a + sum l := by
  unfold sum; rw [List.foldl_cons, foldl_add]; omega
theorem sum_bd (l : List Int) (h : ∀ x, x ∈ l → -2147483648 ≤ x ∧ x ≤ 2147483647) : -2147483648 * (l.length : Int) ≤ sum l ∧ sum l ≤ 2147483647 * (l.length : Int) := by
  induction l with
  | nil => simp [sum]
  | cons x l ih =>
    have h1 := h x (by simp)
    have h2 := ih (fun y hy => h y (by simp [hy]))
    rw [sum_cons, List.length_cons]
    omega

/-- what the 64-bit sum does at one step -/
def sat64 (n : Int) : Int := if 9223372036854775807 < n then 9223372036854775807 else if n < -9223372036854775808 then -9223372036854775808 else n
theorem sat64_cases (n : Int) : (9223372036854775807 < n ∧ sat64 n = 9223372036854775807) ∨ (n < -9223372036854775808 ∧ sat64 n = -9223372036854775808) ∨ (n ≤ 9223372036854775807 ∧ -9223372036854775808 ≤ n ∧ sat64 n = n) := by
  unfold sat64; split <;> (try split) <;> omega
def sums (l : List Int) : Int := l.foldl (fun a b => sat64 (a + b)) 0
theorem sums_snoc (l : List Int) (a : Int) : sums (l ++ [a]) = sat64 (sums l + a) := by simp [sums]
theorem sat64_lo (n : Int) : -9223372036854775808 ≤ sat64 n := by unfold sat64; split <;> (try split) <;> omega
theorem sat64_hi (n : Int) : sat64 n ≤ 9223372036854775807 := by unfold sat64; split <;> (try split) <;> omega

theorem sums_bd (l : List Int) : -9223372036854775808 ≤ sums l ∧ sums l ≤ 9223372036854775807 := by
  rcases List.eq_nil_or_concat l with rfl | ⟨l', a, rfl⟩
  · simp [sums]
  · rw [List.concat_eq_append, sums_snoc]; exact ⟨sat64_lo _, sat64_hi _⟩

theorem take_snoc (zs : List Int) (k : Nat) (h : k < zs.length) : zs.take (k + 1) = zs.take k ++ [zs.getD k 0] := by
  rw [List.take_succ_eq_append_getElem h]; simp [List.getD, h]

theorem pw_pos (q : Int) : 1 ≤ pw q := by unfold pw; exact Int.pow_pos (by decide)
theorem pw_hi (q : Int) : pw q ≤ 2147483648 := by
  unfold pw
  have h := fb_hi q
  have h2 : (2 : Nat) ^ (fb q).toNat ≤ 2 ^ 31 := Nat.pow_le_pow_right (by decide) (by omega)
  have h3 : ((2 : Int) ^ (fb q).toNat) = ((2 ^ (fb q).toNat : Nat) : Int) := by simp
  rw [h3]; omega

theorem mul_bd (a b A B : Int) (h1 : -A ≤ a) (h2 : a ≤ A) (h3 : -B ≤ b) (h4 : b ≤ B) : -(A * B) ≤ a * b ∧ a * b ≤ A * B := by
  have hA : 0 ≤ A := by omega
  have hB : 0 ≤ B := by omega
  have e1 := Int.mul_nonneg (show 0 ≤ A - a by omega) (show 0 ≤ B - b by omega)
  have e2 := Int.mul_nonneg (show 0 ≤ A + a by omega) (show 0 ≤ B + b by omega)
  have e3 := Int.mul_nonneg (show 0 ≤ A - a by omega) (show 0 ≤ B + b by omega)
  have e4 := Int.mul_nonneg (show 0 ≤ A + a by omega) (show 0 ≤ B - b by omega)
  simp only [Int.sub_mul, Int.mul_sub, Int.add_mul, Int.mul_add] at e1 e2 e3 e4
  omega

theorem ediv_bd (n d M : Int) (hd : 1 ≤ d) (h1 : -M ≤ n) (h2 : n ≤ M) : -M ≤ n / d ∧ n / d ≤ M := by
  constructor
  · apply (Int.le_ediv_iff_mul_le (by omega)).2
    have := Int.mul_le_mul_of_nonneg_left hd (show 0 ≤ M by omega)
    rw [Int.neg_mul]; omega
  · by_cases h : 0 ≤ n
    · exact Int.le_trans (Int.ediv_le_self _ h) h2
    · have := Int.ediv_neg_of_neg_of_pos (show n < 0 by omega) (show 0 < d by omega)
      omega

theorem ediv_bd2 (n d lo hi : Int) (hd : 1 ≤ d) (h1 : lo ≤ n) (h2 : n ≤ hi) (h3 : lo ≤ 0) (h4 : 0 ≤ hi) : lo ≤ n / d ∧ n / d ≤ hi := by
  by_cases h : 0 ≤ n
  · have e1 := Int.ediv_le_self d h
    have e2 := Int.ediv_nonneg h (show 0 ≤ d by omega)
    omega
  · have e1 := Int.ediv_neg_of_neg_of_pos (show n < 0 by omega) (show 0 < d by omega)
    have e2 : lo ≤ n / d := by
      apply (Int.le_ediv_iff_mul_le (by omega)).2
      have := Int.mul_le_mul_of_nonneg_left hd (show 0 ≤ -lo by omega)
      rw [Int.neg_mul, Int.neg_mul] at this
      omega
    omega

theorem tdiv_bd (n d M : Int) (h1 : -M ≤ n) (h2 : n ≤ M) : -M ≤ n.tdiv d ∧ n.tdiv d ≤ M := by
  have h : (n.tdiv d).natAbs ≤ n.natAbs := by rw [Int.natAbs_tdiv]; exact Nat.div_le_self _ _
  omega

/-- rounded down: what the reference does -/
theorem down_eq (n d : Int) (hd : 1 ≤ d) : (if n.tmod d < 0 then n.tdiv d - 1 else n.tdiv d) = n / d := by
  have e1 := Int.mul_tdiv_add_tmod n d
  have e2 := Int.mul_ediv_add_emod n d
  have e3 := Int.emod_nonneg n (show d ≠ 0 by omega)
  have e4 := Int.emod_lt_of_pos n (show 0 < d by omega)
  have e5 := Int.tmod_lt_of_pos n (show 0 < d by omega)
  have e6 : -d < n.tmod d := by
    have := Int.tmod_lt_of_pos (-n) (show 0 < d by omega)
    rw [Int.neg_tmod] at this; omega
  split
  · have : d * (n.tdiv d - 1) + (n.tmod d + d) = d * (n / d) + n % d := by rw [Int.mul_sub]; omega
    have h1 : (d * (n.tdiv d - 1) + (n.tmod d + d)) / d = n.tdiv d - 1 := by
      rw [Int.add_comm, Int.add_mul_ediv_left _ _ (by omega), Int.ediv_eq_zero_of_lt (by omega) (by omega)]; omega
    have h2 : (d * (n / d) + n % d) / d = n / d := by rw [e2]
    rw [← h1, ← h2, this]
  · have : d * (n.tdiv d) + (n.tmod d) = d * (n / d) + n % d := by omega
    have h1 : (d * (n.tdiv d) + (n.tmod d)) / d = n.tdiv d := by
      rw [Int.add_comm, Int.add_mul_ediv_left _ _ (by omega), Int.ediv_eq_zero_of_lt (by omega) (by omega)]; omega
    have h2 : (d * (n / d) + n % d) / d = n / d := by rw [e2]
    rw [← h1, ← h2, this]

/-- the greatest or the least number, by the sign -/
def bySign (a : Int) : Int := if 0 < a then 2147483647 else if a < 0 then -2147483648 else 0
/-- a quotient of fractions -/
def quo (a b q : Int) : Int := if b = 0 then bySign a else sat ((a * pw q).tdiv b)
theorem quo_zero (a q : Int) : quo a 0 q = bySign a := by unfold quo; rw [if_pos rfl]
theorem quo_other (a b q : Int) (h : ¬ b = 0) : quo a b q = sat ((a * pw q).tdiv b) := by unfold quo; rw [if_neg h]
/-- a number times a power of two -/
def shift (a b : Int) : Int := if b < 0 then a / pw (-(max b (-31))) else sat (a * pw b)
theorem pw_in (q : Int) (h : 0 ≤ q) (h' : q ≤ 31) : pw q = 2 ^ q.toNat := by
  unfold pw; rw [show fb q = q from by unfold fb; omega]
theorem shift_lo (a q : Int) (h : q ≤ -31) : shift a q = a / 2147483648 := by
  unfold shift; rw [if_pos (by omega), show max q (-31) = -31 from by omega]; rfl
theorem shift_neg (a q : Int) (h : -31 < q) (h' : q < 0) : shift a q = a / 2 ^ (-q).toNat := by
  unfold shift; rw [if_pos (by omega), show max q (-31) = q from by omega, pw_in _ (by omega) (by omega)]
theorem shift_pos (a q : Int) (h : 0 ≤ q) (h' : q ≤ 31) : shift a q = sat (a * 2 ^ q.toNat) := by
  unfold shift; rw [if_neg (by omega), pw_in _ h h']
theorem shift_hi (a q : Int) (h : 31 < q) : shift a q = sat (a * 2147483648) := by
  unfold shift pw; rw [if_neg (by omega), show fb q = 31 from by unfold fb; omega]; rfl

/-- the bit that is tried k steps ahead of the end -/
def bv (k : Nat) : Nat := 2 ^ k / 2
theorem bv_zero : bv 0 = 0 := rfl
theorem bv_succ (k : Nat) : bv (k + 1) = 2 ^ k := by unfold bv; rw [Nat.pow_succ]; omega
theorem bv_half (k : Nat) : bv (k + 1) / 2 = bv k := by rw [bv_succ]; rfl

/-- the root: from bit k on down -/
def rootTo (n : Int) : Nat → Nat → Nat
  | 0, r => r
  | k + 1, r => if ((r : Int) + 2 ^ k) * ((r : Int) + 2 ^ k) ≤ n then rootTo n k (r + 2 ^ k) else rootTo n k r
def root (n : Int) : Nat := rootTo n 31 0

theorem rootTo_yes (n : Int) (k r : Nat) (h : ((r : Int) + bv (k + 1)) * ((r : Int) + bv (k + 1)) ≤ n) : rootTo n (k + 1) r = rootTo n k (r + bv (k + 1)) := by
  rw [bv_succ] at *; push_cast at h; rw [rootTo, if_pos h]
theorem rootTo_no (n : Int) (k r : Nat) (h : n < ((r : Int) + bv (k + 1)) * ((r : Int) + bv (k + 1))) : rootTo n (k + 1) r = rootTo n k r := by
  rw [bv_succ] at *; push_cast at h; rw [rootTo, if_neg (by omega)]

theorem rootTo_ok (n : Int) (k r : Nat) (h0 : (r : Int) * r ≤ n) (h1 : r + 2 ^ k ≤ 2147483648)
    (h2 : r + 2 ^ k = 2147483648 ∨ n < ((r : Int) + 2 ^ k) * ((r : Int) + 2 ^ k)) :
    rootTo n k r ≤ 2147483647 ∧ (rootTo n k r : Int) * rootTo n k r ≤ n ∧ (rootTo n k r = 2147483647 ∨ n < ((rootTo n k r : Int) + 1) * ((rootTo n k r : Int) + 1)) := by
  induction k generalizing r with
  | zero => simp only [rootTo]; simp at h1 h2; exact ⟨by omega, h0, by omega⟩
  | succ k ih =>
    have p : (2 : Nat) ^ (k + 1) = 2 ^ k + 2 ^ k := by rw [Nat.pow_succ]; omega
    have p' : (2 : Int) ^ (k + 1) = 2 ^ k + 2 ^ k := by rw [Int.pow_succ]; omega
    have q : 1 ≤ (2 : Nat) ^ k := Nat.pow_pos (by decide)
    rw [p] at h1 h2
    rw [p'] at h2
    rw [rootTo]
    split
    · rename_i h
      apply ih
      · push_cast; exact h
      · omega
      · rcases h2 with h2 | h2
        · left; omega
        · right; push_cast; rw [Int.add_assoc]; exact h2
    · rename_i h
      apply ih
      · exact h0
      · omega
      · right; exact Int.not_le.1 h

theorem root_neg (n : Int) (h : n < 0) : root n = 0 := by
  unfold root
  have : ∀ k, rootTo n k 0 = 0 := by
    intro k
    induction k with
    | zero => rfl
    | succ k ih =>
      rw [rootTo, if_neg, ih]
      have : 0 ≤ ((0 : Nat) : Int) + 2 ^ k := by have : (0 : Int) ≤ 2 ^ k := Int.pow_nonneg (by decide); omega
      have := Int.mul_nonneg this this
      omega
  exact this 31
theorem root_ok (n : Int) (h : 0 ≤ n) : root n ≤ 2147483647 ∧ (root n : Int) * root n ≤ n ∧ (root n = 2147483647 ∨ n < ((root n : Int) + 1) * ((root n : Int) + 1)) :=
  rootTo_ok n 31 0 (by simpa using h) (by decide) (Or.inl (by decide))
theorem root_le (n : Int) : root n ≤ 2147483647 := by
  by_cases h : 0 ≤ n
  · exact (root_ok n h).1
  · rw [root_neg n (by omega)]; decide

theorem tdiv_mono {a b d : Int} (hd : 0 < d) (h : a ≤ b) : a.tdiv d ≤ b.tdiv d := by
  by_cases ha : 0 ≤ a
  · rw [Int.tdiv_eq_ediv_of_nonneg ha, Int.tdiv_eq_ediv_of_nonneg (by omega)]
    exact Int.ediv_le_ediv hd h
  · by_cases hb : 0 ≤ b
    · have h1 := Int.tdiv_nonneg hb (show 0 ≤ d by omega)
      have h2 := Int.tdiv_nonneg (show 0 ≤ -a by omega) (show 0 ≤ d by omega)
      rw [Int.neg_tdiv] at h2
      omega
    · have h1 : (-b).tdiv d ≤ (-a).tdiv d := by
        rw [Int.tdiv_eq_ediv_of_nonneg (show 0 ≤ -b by omega), Int.tdiv_eq_ediv_of_nonneg (show 0 ≤ -a by omega)]
        exact Int.ediv_le_ediv hd (by omega)
      rw [Int.neg_tdiv, Int.neg_tdiv] at h1
      omega
theorem mulq_mono {a b n q : Int} (h : a ≤ b) (hn : 0 ≤ n) : sat (a * n / pw q) ≤ sat (b * n / pw q) :=
  sat_mono (Int.ediv_le_ediv (by have := pw_pos q; omega) (Int.mul_le_mul_of_nonneg_right h hn))
theorem shift_mono {a b q : Int} (h : a ≤ b) : shift a q ≤ shift b q := by
  unfold shift
  split
  · exact Int.ediv_le_ediv (by have := pw_pos (-(max q (-31))); omega) h
  · exact sat_mono (Int.mul_le_mul_of_nonneg_right h (by have := pw_pos q; omega))
theorem clamp_mono {a b l u : Int} (h : a ≤ b) (hu : l ≤ u) : clamp a l u ≤ clamp b l u := by
  unfold clamp; split <;> split <;> (try split) <;> (try split) <;> omega
theorem quo_mono {a b n q : Int} (h : a ≤ b) (hn : 0 < n) : quo a n q ≤ quo b n q := by
  rw [quo_other a n q (by omega), quo_other b n q (by omega)]
  exact sat_mono (tdiv_mono hn (Int.mul_le_mul_of_nonneg_right h (by have := pw_pos q; omega)))

end Fx
