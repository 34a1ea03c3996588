/- What is spoilt is shown: sixteen bits in a row, and any two bits, of up to 2416. Plain arithmetic. -/
import Derived.Test.YtikhlhdjaladgaaCrcPlain
namespace Cr
set_option linter.unusedVariables false
set_option linter.unusedSimpArgs false

theorem m256 {b : Nat} (h : b < 256) : b * 256 < 65536 := by omega
theorem mid3 (s t c : Nat) : (s ^^^ t) ^^^ c = (s ^^^ c) ^^^ t := by rw [Nat.xor_assoc, Nat.xor_comm t, ← Nat.xor_assoc]
theorem step_xor_state (s t b : Nat) (hs : s < 65536) (ht : t < 65536) (hb : b < 256) : step (s ^^^ t) b = step s b ^^^ fs 8 t := by
  have hb' : b * 256 < 65536 := m256 hb
  have h1 : s ^^^ b * 256 < 65536 := xor_lt hs hb'
  have e := mid3 s t (b * 256)
  unfold step
  rw [e]
  exact fs_xor 8 _ _ h1 ht
theorem step_xor_byte (s x b : Nat) (hs : s < 65536) (hx : x < 256) (hb : b < 256) : step s (x ^^^ b) = step s x ^^^ fs 8 (b * 256) := by
  have hb' : b * 256 < 65536 := m256 hb
  have hx' : x * 256 < 65536 := m256 hx
  unfold step
  rw [mul256_xor, ← fs_xor 8 _ _ (xor_lt hs hx') hb', Nat.xor_assoc]
theorem sumFrom_lin : ∀ (B : List Nat) (s t : Nat), s < 65536 → t < 65536 → (∀ b ∈ B, b < 256) → sumFrom (s ^^^ t) B = sumFrom s B ^^^ fs (8 * B.length) t
  | [], s, t, _, _, _ => rfl
  | b :: B, s, t, hs, ht, hB => by
    have hb := hB b (by simp)
    show sumFrom (step (s ^^^ t) b) B = sumFrom (step s b) B ^^^ fs (8 * (B.length + 1)) t
    rw [step_xor_state s t b hs ht hb, sumFrom_lin B _ _ (step_lt s b hs hb) (fs_lt 8 t ht) (fun x hx => hB x (by simp [hx])), show 8 * (B.length + 1) = 8 + 8 * B.length by omega, fs_add]
/-- A bit's mask in its byte, the first one the greatest. -/
def mask (r : Nat) : Nat := 128 / 2 ^ r
theorem mask_lt (r : Nat) : mask r < 256 := Nat.lt_of_le_of_lt (Nat.div_le_self _ _) (by decide)
theorem mask_up : ∀ r : Fin 8, fs 8 (mask r.val * 256) = fs (8 - r.val) 32768 := by decide +kernel
/-- Bit k of the bytes turned. -/
def flip (l : List Nat) (k : Nat) : List Nat := l.set (k / 8) (l.getD (k / 8) 0 ^^^ mask (k % 8))
theorem flip_len (l : List Nat) (k : Nat) : (flip l k).length = l.length := by simp [flip]
theorem byte_xor {x b : Nat} (hx : x < 256) (hb : b < 256) : x ^^^ b < 256 := Nat.xor_lt_two_pow (n := 8) hx hb
theorem flip_bytes {l : List Nat} (h : ∀ b ∈ l, b < 256) (k : Nat) : ∀ b ∈ flip l k, b < 256 := by
  intro b hb
  rcases List.mem_or_eq_of_mem_set hb with hb | rfl
  · exact h b hb
  · refine byte_xor ?_ (mask_lt _)
    by_cases hk : k / 8 < l.length
    · simp only [List.getD, hk, List.getElem?_eq_getElem, Option.getD_some]; exact h _ (List.getElem_mem hk)
    · simp [List.getD, Nat.le_of_not_lt hk]
theorem flip_sum (l : List Nat) (h : ∀ b ∈ l, b < 256) (k : Nat) (hk : k < 8 * l.length) : sum (flip l k) = sum l ^^^ fs (8 * l.length - k) 32768 := by
  have hq : k / 8 < l.length := by omega
  have e : l.getD (k / 8) 0 = l[k / 8] := by simp [List.getD, hq]
  have hx : l[k / 8] < 256 := h _ (List.getElem_mem hq)
  have hA : ∀ b ∈ l.take (k / 8), b < 256 := fun b hb => h b (List.mem_of_mem_take hb)
  have hB : ∀ b ∈ l.drop (k / 8 + 1), b < 256 := fun b hb => h b (List.mem_of_mem_drop hb)
  have hs := sum_lt _ hA
  have hl : sum l = sumFrom (step (sum (l.take (k / 8))) l[k / 8]) (l.drop (k / 8 + 1)) := by
    conv => lhs; rw [← List.take_append_drop (k / 8) l]
    rw [List.drop_eq_getElem_cons hq, sum_append]; rfl
  have hf : sum (flip l k) = sumFrom (step (sum (l.take (k / 8))) (l[k / 8] ^^^ mask (k % 8))) (l.drop (k / 8 + 1)) := by
    unfold flip
    rw [e, List.set_eq_take_append_cons_drop, if_pos hq, sum_append]; rfl
  have hm := mask_lt (k % 8)
  have hm2 : mask (k % 8) * 256 < 65536 := m256 hm
  rw [hf, hl, step_xor_byte _ _ _ hs hx hm, sumFrom_lin _ _ _ (step_lt _ _ hs hx) (fs_lt 8 _ hm2) hB]
  congr 1
  have h8 : k % 8 < 8 := by omega
  have hu : fs 8 (mask (k % 8) * 256) = fs (8 - k % 8) 32768 := mask_up ⟨k % 8, h8⟩
  rw [hu, ← fs_add, List.length_drop]
  congr 1
  omega
theorem flip_flip (l : List Nat) (k : Nat) (hk : k < 8 * l.length) : flip (flip l k) k = l := by
  have hq : k / 8 < l.length := by omega
  unfold flip
  rw [List.set_set]
  have e : (l.set (k / 8) (l.getD (k / 8) 0 ^^^ mask (k % 8))).getD (k / 8) 0 = l.getD (k / 8) 0 ^^^ mask (k % 8) := by simp [List.getD, hq]
  rw [e, Nat.xor_assoc, Nat.xor_self, Nat.xor_zero]
  have e2 : l.getD (k / 8) 0 = l[k / 8] := by simp [List.getD, hq]
  rw [e2, List.set_getElem_self]

/-! ### Sixteen in a row -/
theorem bit_up : ∀ k : Fin 16, fs k.val (32768 / 2 ^ k.val) = 32768 := by decide +kernel
theorem fs_bit (M k : Nat) (hk : k < 16) (hM : k ≤ M) : fs (M - k) 32768 = fs M (32768 / 2 ^ k) := by
  have h := bit_up ⟨k, hk⟩
  simp only at h
  rw [show M = k + (M - k) by omega, fs_add, h, show k + (M - k) - k = M - k by omega]
/-- What stands when j bits of the burst are over: the list, and which bits were turned. -/
structure Burst (l : List Nat) (M j : Nat) (lj : List Nat) (wj : Nat) : Prop where
  len : lj.length = l.length
  byte : ∀ b ∈ lj, b < 256
  sum : sum lj = Cr.sum l ^^^ fs M wj
  lt : wj < 65536
  low : wj % 2 ^ (16 - j) = 0
  same : wj = 0 → lj = l
theorem Burst.start {l : List Nat} (h : ∀ b ∈ l, b < 256) (M : Nat) : Burst l M 0 l 0 :=
  ⟨rfl, h, by rw [fs_of_zero, Nat.xor_zero], by decide, by simp, fun _ => rfl⟩
theorem Burst.skip {l lj : List Nat} {M j wj : Nat} (h : Burst l M j lj wj) (hj : j < 16) : Burst l M (j + 1) lj wj := by
  refine ⟨h.len, h.byte, h.sum, h.lt, ?_, h.same⟩
  have h1 := h.low
  have e : 2 ^ (16 - j) = 2 ^ (16 - (j + 1)) * 2 := by rw [← Nat.pow_succ]; congr 1; omega
  rw [e] at h1
  have := Nat.mod_mul_right_mod wj (2 ^ (16 - (j + 1))) 2
  rw [h1] at this
  simpa using this.symm
theorem pow_bit : ∀ j : Fin 16, 32768 / 2 ^ j.val = 2 ^ (15 - j.val) := by decide +kernel
theorem Burst.turn {l lj : List Nat} {M j wj s : Nat} (h : Burst l M j lj wj) (hj : j < 16) (hM : M = 8 * l.length - s) (hs : s + j < 8 * l.length) : Burst l M (j + 1) (flip lj (s + j)) (wj ^^^ 32768 / 2 ^ j) := by
  have hb : 32768 / 2 ^ j < 65536 := Nat.lt_of_le_of_lt (Nat.div_le_self _ _) (by decide)
  have hjM : j ≤ M := by omega
  have hp : 32768 / 2 ^ j = 2 ^ (15 - j) := pow_bit ⟨j, hj⟩
  have hsk := (h.skip hj).low
  have e16 : 16 - (j + 1) = 15 - j := by omega
  rw [e16] at hsk
  refine ⟨by rw [flip_len]; exact h.len, flip_bytes h.byte _, ?_, xor_lt h.lt hb, ?_, fun h0 => ?_⟩
  · rw [flip_sum lj h.byte _ (by rw [h.len]; exact hs), h.sum, fs_xor M _ _ h.lt hb, ← fs_bit M j hj hjM, Nat.xor_assoc, h.len]
    congr 3
    omega
  · rw [e16, hp, Nat.xor_mod_two_pow, hsk, Nat.mod_self, Nat.xor_self]
  · exfalso
    have hw := xor_zero h0
    have h1 := h.low
    rw [hw, hp] at h1
    rw [Nat.mod_eq_of_lt (Nat.pow_lt_pow_right (by decide) (by omega))] at h1
    have := Nat.two_pow_pos (15 - j)
    omega
theorem Burst.right {l lj : List Nat} {M j wj : Nat} (h : Burst l M j lj wj) (h0 : Cr.sum l = 0) : Cr.sum lj = 0 ↔ lj = l := by
  constructor
  · intro hz
    have := h.sum
    rw [hz, h0, Nat.zero_xor] at this
    exact h.same (fs_zero M _ h.lt this.symm)
  · intro e; rw [e]; exact h0

/-! ### Two bits -/
def chk : Nat → Nat → Bool
  | 0, _ => true
  | n + 1, s => f s != 32768 && chk n (f s)
theorem chk_all : chk 2500 32768 = true := by decide +kernel
theorem chk_spec : ∀ (n s : Nat), chk n s = true → ∀ d, 0 < d → d ≤ n → fs d s ≠ 32768
  | 0, _, _, d, h0, hd => by omega
  | n + 1, s, h, d, h0, hd => by
    unfold chk at h
    simp only [Bool.and_eq_true, bne_iff_ne] at h
    obtain ⟨e, rfl⟩ : ∃ e, d = e + 1 := ⟨d - 1, by omega⟩
    unfold fs
    rcases Nat.eq_zero_or_pos e with rfl | hp
    · exact h.1
    · exact chk_spec n _ h.2 e hp (by omega)
theorem two_aux (N x y : Nat) (hy : y < N) (hxy : x < y) (hN : N ≤ 2500) (h : fs (N - x) 32768 = fs (N - y) 32768) : False := by
  rw [show N - x = (y - x) + (N - y) by omega, fs_add] at h
  have h1 := fs_inj (N - y) _ _ (fs_lt _ _ (by decide)) (by decide) h
  exact chk_spec 2500 32768 chk_all (y - x) (by omega) (by omega) h1
theorem two_bits (l : List Nat) (h : ∀ b ∈ l, b < 256) (x y : Nat) (hx : x < 8 * l.length) (hy : y < 8 * l.length) (hN : 8 * l.length ≤ 2500) (h0 : Cr.sum l = 0) : Cr.sum (flip (flip l x) y) = 0 ↔ x = y := by
  rw [flip_sum _ (flip_bytes h x) y (by rw [flip_len]; exact hy), flip_len, flip_sum l h x hx, h0, Nat.zero_xor]
  constructor
  · intro hz
    have e := xor_zero hz
    rcases Nat.lt_trichotomy x y with hlt | heq | hlt
    · exact (two_aux _ x y hy hlt hN e).elim
    · exact heq
    · exact (two_aux _ y x hx hlt hN e.symm).elim
  · rintro rfl; exact Nat.xor_self _
end Cr
