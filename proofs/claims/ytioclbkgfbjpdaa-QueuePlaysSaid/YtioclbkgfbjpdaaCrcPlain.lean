/- The sums of sixteen bits, as numbers. Plain arithmetic. -/
namespace Cr
set_option linter.unusedVariables false
set_option linter.unusedSimpArgs false

theorem xor_zero {a b : Nat} (h : a ^^^ b = 0) : a = b := by
  have e : a ^^^ (a ^^^ b) = b := by rw [← Nat.xor_assoc, Nat.xor_self, Nat.zero_xor]
  rw [h, Nat.xor_zero] at e
  exact e
theorem mid (p q r t : Nat) : (p ^^^ q) ^^^ (r ^^^ t) = (p ^^^ r) ^^^ (q ^^^ t) := by
  rw [Nat.xor_assoc, Nat.xor_assoc, ← Nat.xor_assoc q, Nat.xor_comm q r, Nat.xor_assoc r]
theorem xor_lt {a b : Nat} (ha : a < 65536) (hb : b < 65536) : a ^^^ b < 65536 := Nat.xor_lt_two_pow (n := 16) ha hb
/-- One bit's step. -/
def f (s : Nat) : Nat := (s * 2 % 65536) ^^^ (s / 32768 * 4129)
def fs : Nat → Nat → Nat
  | 0, s => s
  | n + 1, s => fs n (f s)
def step (s b : Nat) : Nat := fs 8 (s ^^^ (b * 256))
def sumFrom (s : Nat) (p : List Nat) : Nat := p.foldl step s
def sum (p : List Nat) : Nat := sumFrom 65535 p

theorem f_lt (s : Nat) (h : s < 65536) : f s < 65536 := by
  unfold f
  refine Nat.xor_lt_two_pow (n := 16) (by omega) ?_
  have : s / 32768 ≤ 1 := by omega
  have : s / 32768 * 4129 ≤ 1 * 4129 := Nat.mul_le_mul_right _ this
  omega
theorem fs_lt : ∀ (n s : Nat), s < 65536 → fs n s < 65536
  | 0, s, h => h
  | n + 1, s, h => fs_lt n _ (f_lt s h)
theorem step_lt (s b : Nat) (h : s < 65536) (hb : b < 256) : step s b < 65536 :=
  fs_lt 8 _ (Nat.xor_lt_two_pow (n := 16) h (by omega))
theorem f_xor (a b : Nat) (ha : a < 65536) (hb : b < 65536) : f (a ^^^ b) = f a ^^^ f b := by
  unfold f
  have e1 : (a ^^^ b) * 2 % 65536 = (a * 2 % 65536) ^^^ (b * 2 % 65536) := by
    have := Nat.xor_mod_two_pow (a := a * 2) (b := b * 2) (n := 16)
    rw [show (65536 : Nat) = 2 ^ 16 from rfl, ← this]
    congr 1
    have := Nat.shiftLeft_xor_distrib (a := a) (b := b) (i := 1)
    simpa [Nat.shiftLeft_eq] using this
  have e2 : (a ^^^ b) / 32768 = (a / 32768) ^^^ (b / 32768) := by
    have := Nat.shiftRight_xor_distrib (a := a) (b := b) (i := 15)
    simpa [Nat.shiftRight_eq_div_pow] using this
  have e3 : ((a / 32768) ^^^ (b / 32768)) * 4129 = (a / 32768 * 4129) ^^^ (b / 32768 * 4129) := by
    have h1 : a / 32768 = 0 ∨ a / 32768 = 1 := by omega
    have h2 : b / 32768 = 0 ∨ b / 32768 = 1 := by omega
    rcases h1 with h1 | h1 <;> rcases h2 with h2 | h2 <;> rw [h1, h2] <;> rfl
  rw [e1, e2, e3]
  exact mid _ _ _ _
theorem fs_xor : ∀ (n a b : Nat), a < 65536 → b < 65536 → fs n (a ^^^ b) = fs n a ^^^ fs n b
  | 0, a, b, _, _ => rfl
  | n + 1, a, b, ha, hb => by
    unfold fs
    rw [f_xor a b ha hb]
    exact fs_xor n _ _ (f_lt a ha) (f_lt b hb)
theorem fs_add : ∀ (m n s : Nat), fs (m + n) s = fs n (fs m s)
  | 0, n, s => by rw [Nat.zero_add]; rfl
  | m + 1, n, s => by rw [show m + 1 + n = (m + n) + 1 by omega]; exact fs_add m n (f s)
theorem f_zero_aux (s m k : Nat) (h : s < 65536) (hm : m = s * 2 % 65536) (hk : k = s / 32768) (h0 : k = 0 → m = 0) (h1 : k = 1 → m = 4129) : s = 0 := by
  omega
theorem f_zero (s : Nat) (h : s < 65536) (h0 : f s = 0) : s = 0 := by
  have e := xor_zero h0
  refine f_zero_aux s _ _ h rfl rfl (fun hk => ?_) (fun hk => ?_)
  · rw [hk] at e; exact e.trans (Nat.zero_mul _)
  · rw [hk] at e; exact e.trans (Nat.one_mul _)
theorem fs_zero : ∀ (n s : Nat), s < 65536 → fs n s = 0 → s = 0
  | 0, s, _, h => h
  | n + 1, s, hs, h => f_zero s hs (fs_zero n _ (f_lt s hs) h)
theorem fs_of_zero : ∀ n : Nat, fs n 0 = 0
  | 0 => rfl
  | n + 1 => by unfold fs; rw [show f 0 = 0 from rfl]; exact fs_of_zero n
theorem fs_inj (n a b : Nat) (ha : a < 65536) (hb : b < 65536) (h : fs n a = fs n b) : a = b := by
  have h1 := fs_xor n a b ha hb
  rw [h, Nat.xor_self] at h1
  have h2 := fs_zero n _ (Nat.xor_lt_two_pow (n := 16) ha hb) h1
  exact xor_zero h2

/-- The low byte just moves up. -/
theorem fs_low : ∀ b : Fin 256, fs 8 b.val = b.val * 256 := by decide +kernel
theorem fs_low' (b : Nat) (h : b < 256) : fs 8 b = b * 256 := fs_low ⟨b, h⟩

theorem split (s : Nat) (h : s < 65536) : s = (s / 256 * 256) ^^^ (s % 256) := by
  have h1 : s / 256 * 256 = (s / 256) <<< 8 := by rw [Nat.shiftLeft_eq]
  rw [h1, Nat.xor_comm]
  apply Nat.eq_of_testBit_eq
  intro i
  rw [Nat.testBit_xor, Nat.testBit_shiftLeft, show s / 256 = s >>> 8 by rw [Nat.shiftRight_eq_div_pow], show (256 : Nat) = 2 ^ 8 from rfl, Nat.testBit_mod_two_pow]
  by_cases hi : 8 ≤ i
  · simp [show ¬ i < 8 by omega, hi, show 8 + (i - 8) = i by omega]
  · simp [show i < 8 by omega, hi]

theorem mul256_xor (a b : Nat) : (a ^^^ b) * 256 = (a * 256) ^^^ (b * 256) := by
  have := Nat.shiftLeft_xor_distrib (a := a) (b := b) (i := 8)
  simpa [Nat.shiftLeft_eq] using this

/-- By the table: a byte's step is a shift and one entry. -/
theorem step_table (s b : Nat) (h : s < 65536) (hb : b < 256) : step s b = (s * 256 % 65536) ^^^ step 0 ((s / 256) ^^^ b) := by
  unfold step
  rw [Nat.zero_xor, mul256_xor]
  have h4 : b * 256 < 65536 := by omega
  have h5 : s % 256 < 256 := by omega
  have h6 : s % 256 * 256 = s * 256 % 65536 := by clear h4 h5; omega
  have h1 : s / 256 * 256 < 65536 := Nat.lt_of_le_of_lt (Nat.div_mul_le_self _ _) h
  have h2 : s % 256 < 65536 := by omega
  have hs := split s h
  have h3 : s ^^^ b * 256 = (s % 256) ^^^ (s / 256 * 256 ^^^ b * 256) := by
    refine (congrArg (fun x => x ^^^ b * 256) hs).trans ?_
    show (s / 256 * 256 ^^^ s % 256) ^^^ b * 256 = _
    exact (congrArg (fun x => x ^^^ b * 256) (Nat.xor_comm _ _)).trans (Nat.xor_assoc _ _ _)
  clear hs
  rw [h3, fs_xor 8 _ _ h2 (xor_lt h1 h4), fs_low' _ h5]
  rw [h6]

/-- The document's bit by bit. -/
def bitStep (s bit : Nat) : Nat := if (bit + s / 32768) % 2 = 1 then (s * 2 % 65536) ^^^ 4129 else s * 2 % 65536
/-- The bits 7, 6, .., of a byte: n of them are still to come. -/
def feed : Nat → Nat → Nat → Nat
  | 0, s, b => s
  | n + 1, s, b => feed n (bitStep s (b / 2 ^ n % 2)) b
theorem bitStep_f (s bit : Nat) (h : s < 65536) (hb : bit < 2) : bitStep s bit = f (s ^^^ (bit * 32768)) := by
  rw [f_xor s _ h (by omega)]
  unfold bitStep f
  have h1 : s / 32768 = 0 ∨ s / 32768 = 1 := by omega
  have h2 : bit = 0 ∨ bit = 1 := by omega
  rcases h1 with h1 | h1 <;> rcases h2 with h2 | h2 <;> rw [h1, h2] <;> simp [Nat.xor_assoc]
theorem bitStep_lt (s bit : Nat) (h : s < 65536) (hb : bit < 2) : bitStep s bit < 65536 := by
  rw [bitStep_f s bit h hb]; exact f_lt _ (Nat.xor_lt_two_pow (n := 16) h (by omega))
theorem feed_lt : ∀ (n s b : Nat), s < 65536 → feed n s b < 65536
  | 0, s, b, h => h
  | n + 1, s, b, h => feed_lt n _ b (bitStep_lt s _ h (by omega))
theorem feed_lin : ∀ (n s b : Nat), s < 65536 → feed n s b = fs n s ^^^ feed n 0 b
  | 0, s, b, h => by simp [feed, fs]
  | n + 1, s, b, h => by
    have hb : b / 2 ^ n % 2 < 2 := by omega
    have hx : b / 2 ^ n % 2 * 32768 < 65536 := by omega
    show feed n (bitStep s (b / 2 ^ n % 2)) b = fs n (f s) ^^^ feed n (bitStep 0 (b / 2 ^ n % 2)) b
    rw [feed_lin n _ b (bitStep_lt s _ h hb), feed_lin n _ b (bitStep_lt 0 _ (by omega) hb), bitStep_f s _ h hb, bitStep_f 0 _ (by omega) hb, Nat.zero_xor, f_xor s _ h hx, fs_xor n _ _ (f_lt s h) (f_lt _ hx), Nat.xor_assoc]
theorem feed_zero : ∀ b : Fin 256, feed 8 0 b.val = fs 8 (b.val * 256) := by decide +kernel
theorem feed_step (s b : Nat) (h : s < 65536) (hb : b < 256) : feed 8 s b = step s b := by
  unfold step
  rw [feed_lin 8 s b h, feed_zero ⟨b, hb⟩, fs_xor 8 s _ h (by omega)]

theorem sumFrom_lt : ∀ (p : List Nat) (s : Nat), s < 65536 → (∀ b ∈ p, b < 256) → sumFrom s p < 65536
  | [], s, h, _ => h
  | b :: p, s, h, hp => sumFrom_lt p _ (step_lt s b h (hp b (by simp))) (fun x hx => hp x (by simp [hx]))
theorem sum_lt (p : List Nat) (hp : ∀ b ∈ p, b < 256) : sum p < 65536 := sumFrom_lt p _ (by omega) hp
theorem sumFrom_append (s : Nat) (p q : List Nat) : sumFrom s (p ++ q) = sumFrom (sumFrom s p) q := List.foldl_append ..
theorem sum_append (p q : List Nat) : sum (p ++ q) = sumFrom (sum p) q := sumFrom_append ..

/-- Two bytes: sixteen steps of the difference. -/
theorem two (s h l : Nat) (hs : s < 65536) (hh : h < 256) (hl : l < 256) : sumFrom s [h, l] = fs 16 (s ^^^ (h * 256 + l)) := by
  have e : h * 256 + l = (h * 256) ^^^ l := by
    have := split (h * 256 + l) (by omega)
    rw [show (h * 256 + l) / 256 = h by omega, show (h * 256 + l) % 256 = l by omega] at this
    exact this
  have hx : s ^^^ h * 256 < 65536 := Nat.xor_lt_two_pow (n := 16) hs (by omega)
  show step (step s h) l = _
  rw [e, ← Nat.xor_assoc, show (16 : Nat) = 8 + 8 from rfl, fs_add, fs_xor 8 _ _ hx (by omega), fs_low' l hl]
  rfl
theorem right_iff (p : List Nat) (h l : Nat) (hp : ∀ b ∈ p, b < 256) (hh : h < 256) (hl : l < 256) : sum (p ++ [h, l]) = 0 ↔ sum p = h * 256 + l := by
  rw [sum_append, two _ _ _ (sum_lt p hp) hh hl]
  constructor
  · intro h0
    exact xor_zero (fs_zero 16 _ (Nat.xor_lt_two_pow (n := 16) (sum_lt p hp) (by omega)) h0)
  · intro h0
    rw [h0, Nat.xor_self]; exact fs_of_zero 16
def tail (s : Nat) : List Nat := [s / 256, s % 256]
theorem goes (p : List Nat) (hp : ∀ b ∈ p, b < 256) : sum (p ++ tail (sum p)) = 0 := by
  have := sum_lt p hp
  exact (right_iff p _ _ hp (by omega) (by omega)).2 (by omega)

/-! ### What is spoilt -/
/-- Byte by byte. -/
def xorL : List Nat → List Nat → List Nat
  | a :: p, b :: q => (a ^^^ b) :: xorL p q
  | _, _ => []
theorem sumFrom_xor : ∀ (p q : List Nat) (s t : Nat), p.length = q.length → s < 65536 → t < 65536 → (∀ b ∈ p, b < 256) → (∀ b ∈ q, b < 256) → sumFrom (s ^^^ t) (xorL p q) = sumFrom s p ^^^ sumFrom t q
  | [], [], s, t, _, _, _, _, _ => rfl
  | [], _ :: _, _, _, h, _, _, _, _ => by simp at h
  | _ :: _, [], _, _, h, _, _, _, _ => by simp at h
  | a :: p, b :: q, s, t, h, hs, ht, hp, hq => by
    have ha := hp a (by simp)
    have hb := hq b (by simp)
    have e : step (s ^^^ t) (a ^^^ b) = step s a ^^^ step t b := by
      unfold step
      rw [← fs_xor 8 _ _ (Nat.xor_lt_two_pow (n := 16) hs (by omega)) (Nat.xor_lt_two_pow (n := 16) ht (by omega)), mul256_xor]
      congr 1
      rw [Nat.xor_assoc, Nat.xor_assoc, ← Nat.xor_assoc t, Nat.xor_comm t, Nat.xor_assoc]
    show sumFrom (step (s ^^^ t) (a ^^^ b)) (xorL p q) = _
    rw [e]
    exact sumFrom_xor p q _ _ (by simpa using h) (step_lt s a hs ha) (step_lt t b ht hb) (fun x hx => hp x (by simp [hx])) (fun x hx => hq x (by simp [hx]))
theorem sumFrom_inj (p : List Nat) (hp : ∀ b ∈ p, b < 256) : ∀ (s t : Nat), s < 65536 → t < 65536 → sumFrom s p = sumFrom t p → s = t := by
  induction p with
  | nil => intro s t _ _ h; exact h
  | cons b p ih =>
    intro s t hs ht h
    have hb := hp b (by simp)
    have h1 := ih (fun x hx => hp x (by simp [hx])) _ _ (step_lt s b hs hb) (step_lt t b ht hb) h
    have h2 := fs_inj 8 _ _ (Nat.xor_lt_two_pow (n := 16) hs (by omega)) (Nat.xor_lt_two_pow (n := 16) ht (by omega)) h1
    have h3 : (s ^^^ b * 256) ^^^ b * 256 = (t ^^^ b * 256) ^^^ b * 256 := by rw [h2]
    simpa [Nat.xor_assoc] using h3
theorem step_inj (s a b : Nat) (hs : s < 65536) (ha : a < 256) (hb : b < 256) (h : step s a = step s b) : a = b := by
  have h2 := fs_inj 8 _ _ (Nat.xor_lt_two_pow (n := 16) hs (by omega)) (Nat.xor_lt_two_pow (n := 16) hs (by omega)) h
  have h3 : s ^^^ (s ^^^ a * 256) = s ^^^ (s ^^^ b * 256) := by rw [h2]
  rw [← Nat.xor_assoc, ← Nat.xor_assoc, Nat.xor_self, Nat.zero_xor, Nat.zero_xor] at h3
  omega
/-- One byte. -/
theorem one_byte (p q : List Nat) (a b : Nat) (hp : ∀ x ∈ p, x < 256) (hq : ∀ x ∈ q, x < 256) (ha : a < 256) (hb : b < 256) : sum (p ++ a :: q) = sum (p ++ b :: q) ↔ a = b := by
  constructor
  · intro h
    rw [sum_append, sum_append] at h
    have hs := sum_lt p hp
    exact step_inj _ a b hs ha hb (sumFrom_inj q hq _ _ (step_lt _ a hs ha) (step_lt _ b hs hb) h)
  · rintro rfl; rfl
end Cr
