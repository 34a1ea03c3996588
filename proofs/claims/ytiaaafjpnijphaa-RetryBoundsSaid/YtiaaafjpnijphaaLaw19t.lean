/- RetryTells: how often roles may still be switched over, which ones may not any more. -/
import Derived.Test.YtiaaafjpnijphaaLaw19o
namespace Go.Proofs.Ytiaaafjpnijphaa
open Go.RowKit Go.Own
set_option linter.unusedVariables false
set_option linter.unusedSimpArgs false
/-- A context with other counts. -/
def Cx.withR (c : Cx) (n : Int → Int) : Cx := ⟨c.f, c.i, n 0, n 1, n 2, n 3, n 4, n 5, c.c0, c.c1, c.c2, c.c3, c.c4, c.c5, c.m, c.n, c.x, c.h⟩
theorem Cx.withR_set (c : Cx) (n : Int → Int) (k x : Int) (h0 : 0 ≤ k) (h6 : k < 6) : (c.withR n).setR k x = c.withR fun j => if j = k then x else n j := by
  have hk : k = 0 ∨ k = 1 ∨ k = 2 ∨ k = 3 ∨ k = 4 ∨ k = 5 := by omega
  rcases hk with rfl | rfl | rfl | rfl | rfl | rfl <;> rfl
theorem Cx.withR_r (c : Cx) (n : Int → Int) (k : Int) (h0 : 0 ≤ k) (h6 : k < 6) : (c.withR n).r k = n k := by
  have hk : k = 0 ∨ k = 1 ∨ k = 2 ∨ k = 3 ∨ k = 4 ∨ k = 5 := by omega
  rcases hk with rfl | rfl | rfl | rfl | rfl | rfl <;> rfl
theorem Cx.withR_self (c : Cx) : c.withR c.r = c := rfl
theorem Cx.withR_congr (c : Cx) {n n' : Int → Int} (h : ∀ k, 0 ≤ k → k < 6 → n k = n' k) : c.withR n = c.withR n' := by
  unfold Cx.withR
  rw [h 0 (by omega) (by omega), h 1 (by omega) (by omega), h 2 (by omega) (by omega), h 3 (by omega) (by omega), h 4 (by omega) (by omega), h 5 (by omega) (by omega)]
theorem clearR_with (c : Cx) (l : List Int) : clearR c l = c.withR fun j => if j ∈ l then 0 else c.r j := by
  suffices h : ∀ (l : List Int) (n : Int → Int), clearR (c.withR n) l = c.withR fun j => if j ∈ l then 0 else n j by
    have := h l c.r
    rwa [Cx.withR_self] at this
  intro l
  induction l with
  | nil => intro n; simp [clearR]
  | cons k l ih =>
    intro n
    show clearR (clearOne (c.withR n) k) l = _
    unfold clearOne
    by_cases hk : 0 ≤ k ∧ k < 6
    · rw [if_pos hk, c.withR_set _ _ _ hk.1 hk.2, ih]
      refine c.withR_congr fun j h0 h6 => ?_
      by_cases hm : j ∈ l
      · simp [hm]
      · by_cases e : j = k <;> simp [hm, e]
    · rw [if_neg hk, ih]
      refine c.withR_congr fun j h0 h6 => ?_
      have e : ¬ j = k := by omega
      by_cases hm : j ∈ l <;> simp [hm, e]
/-- The first k counts as they were. -/
def backR (c : Cx) (l : List Int) (k : Nat) : Cx := (c.withR fun j => if j < (k : Int) then c.r j else if j ∈ l then 0 else c.r j).calm
theorem backR_zero (c : Cx) (l : List Int) : (clearR c l).calm = backR c l 0 := by
  rw [clearR_with]
  unfold backR
  refine congrArg Cx.calm (c.withR_congr fun j h0 h6 => ?_)
  rw [if_neg (show ¬ j < ((0 : Nat) : Int) by omega)]
theorem calm_set (c : Cx) (k x : Int) : c.calm.setR k x = (c.setR k x).calm := rfl
theorem calm_r (c : Cx) (k : Int) : c.calm.r k = c.r k := rfl
theorem backR_next (c : Cx) (l : List Int) {k : Nat} (hk : k < 6) : (backR c l k).setR (k : Int) (c.r (k : Int)) = backR c l (k + 1) := by
  unfold backR
  rw [calm_set, c.withR_set _ _ _ (by omega) (by omega)]
  refine congrArg Cx.calm (c.withR_congr fun j h0 h6 => ?_)
  by_cases e : j = (k : Int)
  · have h' : j < ((k + 1 : Nat) : Int) := by omega
    rw [if_pos e, if_pos h', e]
  · rw [if_neg e]
    by_cases h : j < (k : Int)
    · have h' : j < ((k + 1 : Nat) : Int) := by omega
      rw [if_pos h, if_pos h']
    · have h' : ¬ j < ((k + 1 : Nat) : Int) := by omega
      rw [if_neg h, if_neg h']
theorem backR_r (c : Cx) (l : List Int) {k : Nat} (hk : k < 6) : (backR c l k).r (k : Int) = if (k : Int) ∈ l then 0 else c.r (k : Int) := by
  unfold backR
  rw [calm_r, c.withR_r _ _ (by omega) (by omega), if_neg (by omega)]
theorem backR_six (c : Cx) (l : List Int) : backR c l 6 = c.calm := by
  unfold backR
  rw [c.withR_congr (n' := c.r) (fun j h0 h6 => if_pos (by omega)), Cx.withR_self]
/-- What is left, and what was used, of the first k roles. -/
def leftK (m : Lm) (c : Cx) : Nat → Int
  | 0 => 0
  | k + 1 => leftK m c k + max (m.l (k : Nat) - c.r (k : Nat)) 0
def totK (c : Cx) : Nat → Int
  | 0 => 0
  | k + 1 => totK c k + c.r (k : Nat)
theorem leftK_six (m : Lm) (c : Cx) : leftK m c 6 = leftR m c := by
  show 0 + max (m.l0 - c.r0) 0 + max (m.l1 - c.r1) 0 + max (m.l2 - c.r2) 0 + max (m.l3 - c.r3) 0 + max (m.l4 - c.r4) 0 + max (m.l5 - c.r5) 0 = _
  unfold leftR
  omega
theorem totK_six (c : Cx) : totK c 6 = c.tot := by
  show 0 + c.r0 + c.r1 + c.r2 + c.r3 + c.r4 + c.r5 = _
  unfold Cx.tot
  omega
theorem leftK_ok {m : Lm} (hm : m.Ok) {c : Cx} (hc : c.Ok) : ∀ k, k ≤ 6 → 0 ≤ leftK m c k ∧ leftK m c k ≤ 256 * k
  | 0, _ => ⟨by simp [leftK], by simp [leftK]⟩
  | k + 1, h => by
    have := leftK_ok hm hc k (by omega)
    have := Lm.l_ok hm (k : Nat)
    have := c.r_good hc (k : Nat)
    unfold leftK
    omega
theorem totK_ok {c : Cx} (hc : c.Ok) : ∀ k, k ≤ 6 → 0 ≤ totK c k ∧ totK c k ≤ 256 * k
  | 0, _ => ⟨by simp [totK], by simp [totK]⟩
  | k + 1, h => by
    have := totK_ok hc k (by omega)
    have := c.r_good hc (k : Nat)
    unfold totK
    omega
theorem spent_tab : ∀ (b0 b1 b2 b3 b4 b5 : Bool), 
    let s1 := if b0 then 0 else 0 ||| 2 ^ 0
    let s2 := if b1 then s1 else s1 ||| 2 ^ 1
    let s3 := if b2 then s2 else s2 ||| 2 ^ 2
    let s4 := if b3 then s3 else s3 ||| 2 ^ 3
    let s5 := if b4 then s4 else s4 ||| 2 ^ 4
    let s6 := if b5 then s5 else s5 ||| 2 ^ 5
    decide (s6 &&& 1 ≠ 0) = !b0 ∧ decide (s6 &&& 2 ≠ 0) = !b1 ∧ decide (s6 &&& 4 ≠ 0) = !b2 ∧ decide (s6 &&& 8 ≠ 0) = !b3 ∧ decide (s6 &&& 16 ≠ 0) = !b4 ∧ decide (s6 &&& 32 ≠ 0) = !b5 := by decide
theorem spent_has (m : Lm) (c : Cx) {k : Nat} (hk : k < 6) : decide (spentS m c 6 &&& Bs.bit1 (k : Int) ≠ 0) = !(canR m c (k : Int)) := by
  obtain ⟨h0, h1, h2, h3, h4, h5⟩ := spent_tab (canR m c ((0 : Nat) : Int)) (canR m c ((1 : Nat) : Int)) (canR m c ((2 : Nat) : Int)) (canR m c ((3 : Nat) : Int)) (canR m c ((4 : Nat) : Int)) (canR m c ((5 : Nat) : Int))
  have : k = 0 ∨ k = 1 ∨ k = 2 ∨ k = 3 ∨ k = 4 ∨ k = 5 := by omega
  rcases this with rfl | rfl | rfl | rfl | rfl | rfl
  · exact h0
  · exact h1
  · exact h2
  · exact h3
  · exact h4
  · exact h5
theorem can_iff {m : Lm} {c : Cx} {k : Nat} (hk : k < 6) : canR m c (k : Int) = decide (c.r (k : Int) < m.l (k : Int)) := by
  unfold canR
  simp only [show (0 : Int) ≤ (k : Int) from by omega, show (k : Int) < 6 from by omega, true_and]
theorem lm_index (m : Lm) {k : Nat} (hk : k < 6) (w : World) : (Instr.index 129 (.agg #[.int .u8 m.l0, .int .u8 m.l1, .int .u8 m.l2, .int .u8 m.l3, .int .u8 m.l4, .int .u8 m.l5]) (.int .i64 (k : Nat))).run Try.prog w = .ok (.int .u8 (m.l (k : Nat))) w := by
  have : k = 0 ∨ k = 1 ∨ k = 2 ∨ k = 3 ∨ k = 4 ∨ k = 5 := by omega
  rcases this with rfl | rfl | rfl | rfl | rfl | rfl
  · exact ixla _ _ _ _ _ _ _
  · exact ixlb _ _ _ _ _ _ _
  · exact ixlc _ _ _ _ _ _ _
  · exact ixld _ _ _ _ _ _ _
  · exact ixle _ _ _ _ _ _ _
  · exact ixlf _ _ _ _ _ _ _
theorem next_none {s : Nat} {r : Int} (hs : s < 64) (h : Bs.NextIs s (max (6 : Int) 0).toNat r) : r = -1 := by
  rcases h with ⟨h, _⟩ | ⟨j, _, h1, h2, h3, _⟩
  · exact h
  · exfalso
    have hp : (2 : Nat) ^ 6 ≤ 2 ^ j := Nat.pow_le_pow_right (by decide) (show 6 ≤ j by have : ((max (6 : Int) 0).toNat) = 6 := rfl; omega)
    have ht : s.testBit j = false := Nat.testBit_lt_two_pow (Nat.lt_of_lt_of_le hs hp)
    have hb : Bs.bit1 (j : Int) = 2 ^ j := by unfold Bs.bit1; rw [if_pos (by omega), Int.toNat_natCast]
    have hz : s &&& 2 ^ j = 0 := by
      apply Nat.eq_of_testBit_eq
      intro i
      rw [Nat.testBit_and, Nat.testBit_two_pow, Nat.zero_testBit]
      by_cases e : j = i
      · subst e; simp [ht]
      · simp [e]
    unfold Bs.has at h3
    rw [hb, hz] at h3
    simp at h3
set_option maxRecDepth 100000 in
set_option maxHeartbeats 8000000 in
theorem walk_RetryTells (z0 : List Int) (c : Cx) (a2 : Option Addr) (len2 cap2 : Nat) (z2 : List Int) (w : World) (l0 : z0.length = 6) (w0 : ∀ x ∈ z0, (Lit.int .u8 x).wf = true) (wc : c.Ok) (w2 : IsRow .i64 w a2 len2 cap2 z2) :
    Calls Try.prog 13 #[.agg (z0.map (Value.int .u8)).toArray, .agg #[.int .u16 c.f, .int .u16 c.i, .int .u8 c.r0, .int .u8 c.r1, .int .u8 c.r2, .int .u8 c.r3, .int .u8 c.r4, .int .u8 c.r5, .int .i8 c.c0, .int .i8 c.c1, .int .i8 c.c2, .int .i8 c.c3, .int .i8 c.c4, .int .i8 c.c5, .int .u8 c.m, .int .u16 c.n, .bool c.x, .int .u8 c.h], .slice a2 len2 cap2] w fun e w' => e = .returned (.bool true) ∧ Below w.heap.size w w' := by
  obtain ⟨m, hm, e0⟩ := lm_of l0 w0
  rw [e0]
  clear e0 l0 w0
  obtain ⟨l, hl, hrd⟩ := isRow_i w2
  clear w2
  have hzc := zero_cx
  have h0 := heap_alloc2_old w (.cells #[.int .u8 m.l0, .int .u8 m.l1, .int .u8 m.l2, .int .u8 m.l3, .int .u8 m.l4, .int .u8 m.l5] 129) (.cells #[.int .u16 c.f, .int .u16 c.i, .int .u8 c.r0, .int .u8 c.r1, .int .u8 c.r2, .int .u8 c.r3, .int .u8 c.r4, .int .u8 c.r5, .int .i8 c.c0, .int .i8 c.c1, .int .i8 c.c2, .int .i8 c.c3, .int .i8 c.c4, .int .i8 c.c5, .int .u8 c.m, .int .u16 c.n, .bool c.x, .int .u8 c.h] 131)
  have h1 := heap_alloc2_new w (.cells #[.int .u8 m.l0, .int .u8 m.l1, .int .u8 m.l2, .int .u8 m.l3, .int .u8 m.l4, .int .u8 m.l5] 129) (.cells #[.int .u16 c.f, .int .u16 c.i, .int .u8 c.r0, .int .u8 c.r1, .int .u8 c.r2, .int .u8 c.r3, .int .u8 c.r4, .int .u8 c.r5, .int .i8 c.c0, .int .i8 c.c1, .int .i8 c.c2, .int .i8 c.c3, .int .i8 c.c4, .int .i8 c.c5, .int .u8 c.m, .int .u16 c.n, .bool c.x, .int .u8 c.h] 131)
  have hb0 : Below w.heap.size w ((w.alloc (.cells #[.int .u8 m.l0, .int .u8 m.l1, .int .u8 m.l2, .int .u8 m.l3, .int .u8 m.l4, .int .u8 m.l5] 129)).alloc (.cells #[.int .u16 c.f, .int .u16 c.i, .int .u8 c.r0, .int .u8 c.r1, .int .u8 c.r2, .int .u8 c.r3, .int .u8 c.r4, .int .u8 c.r5, .int .i8 c.c0, .int .i8 c.c1, .int .i8 c.c2, .int .i8 c.c3, .int .i8 c.c4, .int .i8 c.c5, .int .u8 c.m, .int .u16 c.n, .bool c.x, .int .u8 c.h] 131)) := by repeat' (first | (with_reducible exact Below.refl _ _) | (with_reducible assumption) | (with_reducible refine Below.setCell ?_ ?_ _) | (with_reducible refine Below.alloc ?_ ?_ _) | (with_reducible refine Below.drew ?_) | (with_reducible refine Below.drawsN ?_ _) | go_size)
  have hsz : ((w.alloc (.cells #[.int .u8 m.l0, .int .u8 m.l1, .int .u8 m.l2, .int .u8 m.l3, .int .u8 m.l4, .int .u8 m.l5] 129)).alloc (.cells #[.int .u16 c.f, .int .u16 c.i, .int .u8 c.r0, .int .u8 c.r1, .int .u8 c.r2, .int .u8 c.r3, .int .u8 c.r4, .int .u8 c.r5, .int .i8 c.c0, .int .i8 c.c1, .int .i8 c.c2, .int .i8 c.c3, .int .i8 c.c4, .int .i8 c.c5, .int .u8 c.m, .int .u16 c.n, .bool c.x, .int .u8 c.h] 131)).heap.size = w.heap.size + 2 := by simp
  go_enter Try.func13, Try.ntmps13
  go_upto_region 1 with fail
  obtain ⟨w1, hw1⟩ : ∃ w1, w1 = (w.alloc (.cells #[.int .u8 m.l0, .int .u8 m.l1, .int .u8 m.l2, .int .u8 m.l3, .int .u8 m.l4, .int .u8 m.l5] 129)).alloc (.cells #[.int .u16 c.f, .int .u16 c.i, .int .u8 c.r0, .int .u8 c.r1, .int .u8 c.r2, .int .u8 c.r3, .int .u8 c.r4, .int .u8 c.r5, .int .i8 c.c0, .int .i8 c.c1, .int .i8 c.c2, .int .i8 c.c3, .int .i8 c.c4, .int .i8 c.c5, .int .u8 c.m, .int .u16 c.n, .bool c.x, .int .u8 c.h] 131) := ⟨_, rfl⟩
  rw [← hw1] at h0 h1 hb0 hsz ⊢
  have hS : LcSt w w1 w.heap.size (w.heap.size + 1) w1.heap.size m c a2 len2 cap2 l := ⟨hb0, by omega, by omega, Nat.le_refl _, by omega, h0, h1, (hrd.below hb0).mono (by omega)⟩
  clear hw1 h0 h1 hb0 hsz hrd
  obtain ⟨g1, hg1⟩ : ∃ g, g = w.heap.size + 1 := ⟨_, rfl⟩
  rw [← hg1] at hS ⊢
  obtain ⟨g0, hg0⟩ : ∃ g, g = w.heap.size := ⟨_, rfl⟩
  rw [show (Value.pointer (some ⟨w.heap.size, 0, none⟩)) = .pointer (some ⟨g0, 0, none⟩) by rw [hg0]]
  have hS : LcSt w w1 g0 g1 w1.heap.size m c a2 len2 cap2 l := by rw [hg0]; exact hS
  have HS := Lib.hid hS
  clear hS hg1 hg0
  go_wp2_with fail
  go_at_call 62
  refine (awake19 _).mono ?_
  rintro e w2 ⟨rfl, hb⟩
  have HS2 := Lib.hid (HS.out.step hb (Nat.le_refl _))
  clear hb HS
  go_wp2_with fail
  go_at_call 63
  refine (Few_any a2 len2 cap2 _ l 9 _ (by decide) hl HS2.out.ln HS2.out.ro).mono ?_
  rintro e w3 ⟨v, rfl, hown, hb⟩
  obtain ⟨a, cap, rfl⟩ := own_form hown
  obtain ⟨l9, hl9⟩ : ∃ l9, l9 = l.take 9 := ⟨_, rfl⟩
  rw [← hl9] at hown ⊢
  have hlen : l9.length ≤ 9 := by rw [hl9, List.length_take]; omega
  obtain ⟨len, hle⟩ : ∃ len, len = l9.length := ⟨_, rfl⟩
  rw [← hle] at hown hlen ⊢
  have hro := rd_of_own (f := Bs.iv l9) hown (fun i hi => ziv_at l9 i (by omega))
  have hS3 : LcSt w w3 g0 g1 w3.heap.size m c a len cap l9 := by
    have h := HS2.out.step hb HS2.out.ln
    exact ⟨h.be, Nat.lt_of_lt_of_le h.l0 h.ln, Nat.lt_of_lt_of_le h.l1 h.ln, Nat.le_refl _, h.be.size, h.bm, h.bc, hro⟩
  have HS3 := Lib.hid hS3
  have HL := Lib.hid hle.symm
  clear hl9 hle hown hro hb hS3 HS2 hl
  have b0 := HS3.out.bm
  go_wp2_with (((with_reducible show wpList _ _ _ (_ :: _) _ _); refine wpList_load_row rfl 129 _ rfl _ rfl _ _ _ _ b0 Try.underlying129 rfl (by exact size_lm) ?_; (try go_simp)))
  clear b0
  go_loopw [7, 8, 20] (fun v t i wr => ∃ (k : Nat), k ≤ 6 ∧ i = .int .i64 k ∧ v = .int .i64 (leftK m c k) ∧ t = .int .i64 (totK c k) ∧ LcSt w wr g0 g1 w3.heap.size m c a len cap l9) (fun _ _ i _ => 6 - (intOf i).toNat)
  case atStart => exact ⟨0, Nat.zero_le _, rfl, rfl, rfl, HS3.out⟩
  case round =>
    obtain ⟨k, hk, rfl, rfl, rfl, hS⟩ := hrel
    clear HS3
    have hlk := leftK_ok hm wc k hk
    have htk := totK_ok wc k hk
    by_cases hlt : k < 6
    · have hix := fun w => lm_index m hlt w
      have hkc : wr.cell? ⟨g1, 2 + k, none⟩ = some (.int .u8 (c.r (k : Nat))) := by rw [cell_of_row _ g1 (2 + k) _ _ _ hS.bc, cx_cell c k hlt]
      have hx := Lm.l_ok hm (k : Nat)
      have hy := c.r_good wc (k : Nat)
      have hsh := spent_has m c hlt
      rw [can_iff hlt] at hsh
      have hs6 := spentS_lt m c 6 (Nat.le_refl _)
      obtain ⟨d, b, hd⟩ : ∃ d b, spendR m c [(k : Int)] = (d, b) := ⟨_, _, rfl⟩
      have hb : b = decide (c.r (k : Int) < m.l (k : Int)) := by rw [← can_iff hlt, ← spent_one, hd]
      have eL : leftK m c (k + 1) = leftK m c k + max (m.l (k : Nat) - c.r (k : Nat)) 0 := rfl
      have eT : totK c (k + 1) = totK c k + c.r (k : Nat) := rfl
      obtain ⟨x, hx'⟩ : ∃ x, x = m.l (k : Nat) := ⟨_, rfl⟩
      obtain ⟨y, hy'⟩ : ∃ y, y = c.r (k : Nat) := ⟨_, rfl⟩
      rw [← hx'] at hix hx hsh hb eL
      rw [← hy'] at hkc hy hsh hb eL eT
      obtain ⟨L, hL⟩ : ∃ L, L = leftK m c k := ⟨_, rfl⟩
      obtain ⟨T, hT⟩ : ∃ T, T = totK c k := ⟨_, rfl⟩
      rw [← hL] at hlk eL ⊢
      rw [← hT] at htk eT ⊢
      obtain ⟨S, hSS⟩ : ∃ S, S = spentS m c 6 := ⟨_, rfl⟩
      rw [← hSS] at hsh hs6
      have HSS := Lib.hid hSS
      have HD := Lib.hid hd
      have HS := Lib.hid hS
      have HSH := Lib.hid hsh
      have HB := Lib.hid hb
      have EL := Lib.hid eL
      have ET := Lib.hid eT
      obtain ⟨x0, x1⟩ := hx
      obtain ⟨y0, y1⟩ := hy
      obtain ⟨L0, L1⟩ := hlk
      obtain ⟨T0, T1⟩ := htk
      clear hSS hd hS hsh hb eL eT hx' hy' hL hT
      have b0 := HS.out.bm
      have b1 := HS.out.bc
      by_cases hyx : y < x
      · have hge : decide (x ≤ y) = false := decide_eq_false (by omega)
        have hL2 : leftK m c (k + 1) = L + (x - y) := by rw [EL.out]; omega
        have hT2 := ET.out
        have hh : decide (S &&& Bs.bit1 (k : Int) ≠ 0) = false := by rw [HSH.out, decide_eq_true hyx]; rfl
        have hb2 : b = true := by rw [HB.out]; exact decide_eq_true hyx
        subst hb2
        have HL2 := Lib.hid hL2
        have HT2 := Lib.hid hT2
        have HH := Lib.hid hh
        clear hL2 hT2 hh EL ET HSH HB
        skip
        go_wp2_with (first | ((with_reducible show wpList _ _ _ (_ :: _) _ _); refine wpList_load_row rfl 129 _ rfl _ rfl _ _ _ _ b0 Try.underlying129 rfl (by exact size_lm) ?_; (try go_simp)) | ((with_reducible show wpList _ _ _ (_ :: _) _ _); refine wpList_load_row rfl 131 _ rfl _ rfl _ _ _ _ b1 Try.underlying131 rfl (by exact size_cx) ?_; (try go_simp)))
        go_at_call 71
        refine (Spent_any _ hm wc).mono ?_
        rintro e w4 ⟨rfl, hb⟩
        rw [← HSS.out]
        have HS4 := Lib.hid (HS.out.step (hb.mono HS.out.ln) (Nat.le_refl _))
        clear hb b0 b1 HS
        go_wp2_with fail
        go_at_call 54
        refine (Bs.Has_any S (k : Int) _ (by omega)).mono ?_
        rintro e w5 ⟨rfl, hb⟩
        rw [HH.out]
        have HS5 := Lib.hid (HS4.out.step (hb.mono HS4.out.ln) (Nat.le_refl _))
        have b0 := HS5.out.bm
        have b1 := HS5.out.bc
        have hal : Below w5.heap.size w5 (w5.alloc (.cells #[.int .i64 (k : Nat)] 3)) := (Below.refl _ _).alloc (Nat.le_refl _) _
        have HAL := Lib.hid hal
        clear hb HS4 HH hal
        go_wp2_with (first | (refine wpLoadG (by (first | exact Go.Mix.wanted_none rfl | exact Go.Mix.wanted_tt rfl rfl rfl | exact Go.Mix.wanted_ff rfl rfl rfl)) 129 _ rfl _ rfl _ _ _ _ b0 Try.underlying129 rfl (by exact size_lm) ?_; (try go_simp)) | (refine wpLoadG (by (first | exact Go.Mix.wanted_none rfl | exact Go.Mix.wanted_tt rfl rfl rfl | exact Go.Mix.wanted_ff rfl rfl rfl)) 131 _ rfl _ rfl _ _ _ _ b1 Try.underlying131 rfl (by exact size_cx) ?_; (try go_simp)))
        go_at_call 65
        refine (May_det _ 1 1 _ [(k : Int)] _ hm wc rfl (Nat.le_refl _) (rd_oneR (heap_alloc_new _ _)) HD.out).mono ?_
        rintro e w6 ⟨rfl, hb⟩
        have hb6 := HAL.out.trans (hb.mono HAL.out.size)
        have HS6 := Lib.hid (HS5.out.step (hb6.mono HS5.out.ln) (Nat.le_refl _))
        clear hb hb6 HS5 HAL b0 b1
        go_wp2_with fail
        go_roundw
        case rel => exact ⟨k + 1, by omega, by go_num, by rw [HL2.out], by rw [HT2.out], HS6.out⟩
        case measure => simp [intOf]; omega
      · have hge : decide (x ≤ y) = true := decide_eq_true (by omega)
        have hL2 : leftK m c (k + 1) = L := by rw [EL.out]; omega
        have hT2 := ET.out
        have hh : decide (S &&& Bs.bit1 (k : Int) ≠ 0) = true := by rw [HSH.out, decide_eq_false hyx]; rfl
        have hb2 : b = false := by rw [HB.out]; exact decide_eq_false hyx
        subst hb2
        have HL2 := Lib.hid hL2
        have HT2 := Lib.hid hT2
        have HH := Lib.hid hh
        clear hL2 hT2 hh EL ET HSH HB
        skip
        go_wp2_with (first | ((with_reducible show wpList _ _ _ (_ :: _) _ _); refine wpList_load_row rfl 129 _ rfl _ rfl _ _ _ _ b0 Try.underlying129 rfl (by exact size_lm) ?_; (try go_simp)) | ((with_reducible show wpList _ _ _ (_ :: _) _ _); refine wpList_load_row rfl 131 _ rfl _ rfl _ _ _ _ b1 Try.underlying131 rfl (by exact size_cx) ?_; (try go_simp)))
        go_at_call 71
        refine (Spent_any _ hm wc).mono ?_
        rintro e w4 ⟨rfl, hb⟩
        rw [← HSS.out]
        have HS4 := Lib.hid (HS.out.step (hb.mono HS.out.ln) (Nat.le_refl _))
        clear hb b0 b1 HS
        go_wp2_with fail
        go_at_call 54
        refine (Bs.Has_any S (k : Int) _ (by omega)).mono ?_
        rintro e w5 ⟨rfl, hb⟩
        rw [HH.out]
        have HS5 := Lib.hid (HS4.out.step (hb.mono HS4.out.ln) (Nat.le_refl _))
        have b0 := HS5.out.bm
        have b1 := HS5.out.bc
        have hal : Below w5.heap.size w5 (w5.alloc (.cells #[.int .i64 (k : Nat)] 3)) := (Below.refl _ _).alloc (Nat.le_refl _) _
        have HAL := Lib.hid hal
        clear hb HS4 HH hal
        go_wp2_with (first | (refine wpLoadG (by (first | exact Go.Mix.wanted_none rfl | exact Go.Mix.wanted_tt rfl rfl rfl | exact Go.Mix.wanted_ff rfl rfl rfl)) 129 _ rfl _ rfl _ _ _ _ b0 Try.underlying129 rfl (by exact size_lm) ?_; (try go_simp)) | (refine wpLoadG (by (first | exact Go.Mix.wanted_none rfl | exact Go.Mix.wanted_tt rfl rfl rfl | exact Go.Mix.wanted_ff rfl rfl rfl)) 131 _ rfl _ rfl _ _ _ _ b1 Try.underlying131 rfl (by exact size_cx) ?_; (try go_simp)))
        go_at_call 65
        refine (May_det _ 1 1 _ [(k : Int)] _ hm wc rfl (Nat.le_refl _) (rd_oneR (heap_alloc_new _ _)) HD.out).mono ?_
        rintro e w6 ⟨rfl, hb⟩
        have hb6 := HAL.out.trans (hb.mono HAL.out.size)
        have HS6 := Lib.hid (HS5.out.step (hb6.mono HS5.out.ln) (Nat.le_refl _))
        clear hb hb6 HS5 HAL b0 b1
        go_wp2_with fail
        go_roundw
        case rel => exact ⟨k + 1, by omega, by go_num, by rw [HL2.out], by rw [HT2.out], HS6.out⟩
        case measure => simp [intOf]; omega
    · obtain rfl : k = 6 := by omega
      have b0 := hS.bm
      have b1 := hS.bc
      have HS := Lib.hid hS
      have eL := leftK_six m c
      have eT := totK_six c
      clear hS hlk htk
      rw [eL, eT]
      clear eL eT
      go_wp2_with (first | ((with_reducible show wpList _ _ _ (_ :: _) _ _); refine wpList_load_row rfl 129 _ rfl _ rfl _ _ _ _ b0 Try.underlying129 rfl (by exact size_lm) ?_; (try go_simp)) | ((with_reducible show wpList _ _ _ (_ :: _) _ _); refine wpList_load_row rfl 131 _ rfl _ rfl _ _ _ _ b1 Try.underlying131 rfl (by exact size_cx) ?_; (try go_simp)))
      go_at_call 70
      refine (Clear_any a len cap _ l9 _ HL.out HS.out.ln HS.out.ro).mono ?_
      rintro e w4 ⟨rfl, hb⟩
      rw [backR_zero]
      have h4 := HS.out.step (hb.mono HS.out.ln) (Nat.le_refl _)
      have hb5 : Below w4.heap.size w4 (w4.alloc (.cells #[.int .u16 (backR c l9 0).f, .int .u16 (backR c l9 0).i, .int .u8 (backR c l9 0).r0, .int .u8 (backR c l9 0).r1, .int .u8 (backR c l9 0).r2, .int .u8 (backR c l9 0).r3, .int .u8 (backR c l9 0).r4, .int .u8 (backR c l9 0).r5, .int .i8 (backR c l9 0).c0, .int .i8 (backR c l9 0).c1, .int .i8 (backR c l9 0).c2, .int .i8 (backR c l9 0).c3, .int .i8 (backR c l9 0).c4, .int .i8 (backR c l9 0).c5, .int .u8 (backR c l9 0).m, .int .u16 (backR c l9 0).n, .bool (backR c l9 0).x, .int .u8 (backR c l9 0).h] 131)) := (Below.refl _ _).alloc (Nat.le_refl _) _
      have h5 := h4.step hb5 h4.ln
      have d5 := heap_alloc_new w4 (.cells #[.int .u16 (backR c l9 0).f, .int .u16 (backR c l9 0).i, .int .u8 (backR c l9 0).r0, .int .u8 (backR c l9 0).r1, .int .u8 (backR c l9 0).r2, .int .u8 (backR c l9 0).r3, .int .u8 (backR c l9 0).r4, .int .u8 (backR c l9 0).r5, .int .i8 (backR c l9 0).c0, .int .i8 (backR c l9 0).c1, .int .i8 (backR c l9 0).c2, .int .i8 (backR c l9 0).c3, .int .i8 (backR c l9 0).c4, .int .i8 (backR c l9 0).c5, .int .u8 (backR c l9 0).m, .int .u16 (backR c l9 0).n, .bool (backR c l9 0).x, .int .u8 (backR c l9 0).h] 131)
      have hs4 := h4.ln
      clear hb b0 b1 h4 hb5 HS
      go_upto_region 16 with ((with_reducible show wpList _ _ _ (_ :: _) _ _); refine wpList_store_row rfl 131 _ _ rfl _ _ rfl rfl _ _ (heap_alloc_new _ _) (by exact size_cx) (by rfl) (by simp [Value.oneCell']) ?_; rw [World.setRow_alloc_new])
      obtain ⟨w5, hw5⟩ : ∃ w5, w5 = w4.alloc (.cells #[.int .u16 (backR c l9 0).f, .int .u16 (backR c l9 0).i, .int .u8 (backR c l9 0).r0, .int .u8 (backR c l9 0).r1, .int .u8 (backR c l9 0).r2, .int .u8 (backR c l9 0).r3, .int .u8 (backR c l9 0).r4, .int .u8 (backR c l9 0).r5, .int .i8 (backR c l9 0).c0, .int .i8 (backR c l9 0).c1, .int .i8 (backR c l9 0).c2, .int .i8 (backR c l9 0).c3, .int .i8 (backR c l9 0).c4, .int .i8 (backR c l9 0).c5, .int .u8 (backR c l9 0).m, .int .u16 (backR c l9 0).n, .bool (backR c l9 0).x, .int .u8 (backR c l9 0).h] 131) := ⟨_, rfl⟩
      rw [← hw5] at h5 d5 ⊢
      obtain ⟨gd, hgd⟩ : ∃ g, g = w4.heap.size := ⟨_, rfl⟩
      rw [← hgd] at d5 hs4 ⊢
      obtain ⟨n3, hn3⟩ : ∃ n, n = w3.heap.size := ⟨_, rfl⟩
      rw [← hn3] at h5 hs4
      have HS5 := Lib.hid h5
      have HD5 := Lib.hid d5
      clear hw5 hgd hn3 h5 d5
      go_wp2_with fail
      go_loopw [69] (fun i wr => ∃ (k : Nat), k ≤ 6 ∧ i = .int .i64 k ∧ LcSt w wr g0 g1 n3 m c a len cap l9 ∧ wr.heap[gd]? = some (.cells #[.int .u16 (backR c l9 k).f, .int .u16 (backR c l9 k).i, .int .u8 (backR c l9 k).r0, .int .u8 (backR c l9 k).r1, .int .u8 (backR c l9 k).r2, .int .u8 (backR c l9 k).r3, .int .u8 (backR c l9 k).r4, .int .u8 (backR c l9 k).r5, .int .i8 (backR c l9 k).c0, .int .i8 (backR c l9 k).c1, .int .i8 (backR c l9 k).c2, .int .i8 (backR c l9 k).c3, .int .i8 (backR c l9 k).c4, .int .i8 (backR c l9 k).c5, .int .u8 (backR c l9 k).m, .int .u16 (backR c l9 k).n, .bool (backR c l9 k).x, .int .u8 (backR c l9 k).h] 131 (0, 0))) (fun i _ => 6 - (intOf i).toNat)
      case atStart => exact ⟨0, Nat.zero_le _, rfl, HS5.out, HD5.out⟩
      case round =>
        obtain ⟨k, hk, rfl, hS, hD⟩ := hrel
        clear HS5 HD5
        by_cases hlt : k < 6
        · have hkc : wr.cell? ⟨g1, 2 + k, none⟩ = some (.int .u8 (c.r (k : Nat))) := by rw [cell_of_row _ g1 (2 + k) _ _ _ hS.bc, cx_cell c k hlt]
          have hkd : wr.cell? ⟨gd, 2 + k, none⟩ = some (.int .u8 ((backR c l9 k).r (k : Nat))) := by rw [cell_of_row _ gd (2 + k) _ _ _ hD, cx_cell _ k hlt]
          have hzd : wr.frozen? ⟨gd, 2 + k, none⟩ = false := frozen_of_row _ gd (2 + k) _ _ hD
          rw [backR_r c l9 hlt] at hkd
          have hput := heap_setCell_same wr gd (2 + k) _ _ (.int .u8 (c.r (k : Nat))) hD
          rw [cx_put _ k _ hlt, backR_next c l9 hlt] at hput
          have hbs : Below n3 wr (wr.setCell ⟨gd, 2 + k, none⟩ (.int .u8 (c.r (k : Nat)))) := (Below.refl n3 wr).setCell (p := ⟨gd, 2 + k, none⟩) hs4 _
          have hS2 := hS.step hbs (Nat.le_refl _)
          have hy := c.r_good wc (k : Nat)
          obtain ⟨y, hy'⟩ : ∃ y, y = c.r (k : Nat) := ⟨_, rfl⟩
          rw [← hy'] at hkc hkd hput hS2 hy
          have HS := Lib.hid hS
          have HS2 := Lib.hid hS2
          have HP := Lib.hid hput
          clear hS hD hbs hS2 hput hy'
          by_cases hin : (k : Int) ∈ l9
          · rw [if_pos hin] at hkd
            have HIN := Lib.hid (decide_eq_true hin)
            clear hin
            go_wp2_with fail
            go_at_call 57
            refine (In_any a len cap _ l9 (k : Int) _ HL.out HS.out.ln HS.out.ro).mono ?_
            rintro e w6 ⟨rfl, rfl⟩
            rw [HIN.out]
            go_wp2_with fail
            go_roundw
            case rel => exact ⟨k + 1, by omega, by go_num, HS2.out, HP.out⟩
            case measure => simp [intOf]; omega
          · rw [if_neg hin] at hkd
            have HIN := Lib.hid (decide_eq_false hin)
            clear hin
            have hyy : (y != y) = false := by simp
            go_wp2_with fail
            go_at_call 57
            refine (In_any a len cap _ l9 (k : Int) _ HL.out HS.out.ln HS.out.ro).mono ?_
            rintro e w6 ⟨rfl, rfl⟩
            rw [HIN.out]
            go_wp2_with fail
            go_roundw
            case rel => exact ⟨k + 1, by omega, by go_num, HS2.out, HP.out⟩
            case measure => simp [intOf]; omega
        · obtain rfl : k = 6 := by omega
          rw [backR_six] at hD
          have k1 : wr.cell? ⟨g1, 16, none⟩ = some (.bool c.x) := cell_of_row _ g1 16 _ _ _ hS.bc
          have k16 : wr.cell? ⟨gd, 16, none⟩ = some (.bool false) := cell_of_row _ gd 16 _ _ _ hD
          have z16 : wr.frozen? ⟨gd, 16, none⟩ = false := frozen_of_row _ gd 16 _ _ hD
          have hput : (wr.setCell ⟨gd, 16, none⟩ (.bool c.x)).heap[gd]? = some (.cells #[.int .u16 c.f, .int .u16 c.i, .int .u8 c.r0, .int .u8 c.r1, .int .u8 c.r2, .int .u8 c.r3, .int .u8 c.r4, .int .u8 c.r5, .int .i8 c.c0, .int .i8 c.c1, .int .i8 c.c2, .int .i8 c.c3, .int .i8 c.c4, .int .i8 c.c5, .int .u8 c.m, .int .u16 c.n, .bool c.x, .int .u8 c.h] 131 (0, 0)) := heap_setCell_same wr gd 16 _ _ (.bool c.x) hD
          have hbs : Below n3 wr (wr.setCell ⟨gd, 16, none⟩ (.bool c.x)) := (Below.refl n3 wr).setCell (p := ⟨gd, 16, none⟩) hs4 _
          have hS2 := hS.step hbs (Nat.le_refl _)
          clear hS hD hbs
          go_upto_region 27 with fail
          obtain ⟨w6, hw6⟩ : ∃ w6, w6 = wr.setCell ⟨gd, 16, none⟩ (.bool c.x) := ⟨_, rfl⟩
          rw [← hw6] at hput hS2 ⊢
          have b0 := hS2.bm
          have b1 := hS2.bc
          have HS := Lib.hid hS2
          have HD := Lib.hid hput
          clear hw6 k1 k16 z16 hput hS2
          have heq : ∀ (x : Cx) (w : World), (binOp .eql 131 (.agg #[.int .u16 x.f, .int .u16 x.i, .int .u8 x.r0, .int .u8 x.r1, .int .u8 x.r2, .int .u8 x.r3, .int .u8 x.r4, .int .u8 x.r5, .int .i8 x.c0, .int .i8 x.c1, .int .i8 x.c2, .int .i8 x.c3, .int .i8 x.c4, .int .i8 x.c5, .int .u8 x.m, .int .u16 x.n, .bool x.x, .int .u8 x.h]) (.agg #[.int .u16 x.f, .int .u16 x.i, .int .u8 x.r0, .int .u8 x.r1, .int .u8 x.r2, .int .u8 x.r3, .int .u8 x.r4, .int .u8 x.r5, .int .i8 x.c0, .int .i8 x.c1, .int .i8 x.c2, .int .i8 x.c3, .int .i8 x.c4, .int .i8 x.c5, .int .u8 x.m, .int .u16 x.n, .bool x.x, .int .u8 x.h])).run Try.prog w = .ok (.bool true) w := fun x w => by rw [eqlCx]; simp
          have HEQ := Lib.hid heq
          clear heq
          go_wp2_with (first | ((with_reducible show wpList _ _ _ (_ :: _) _ _); refine wpList_load_row rfl 129 _ rfl _ rfl _ _ _ _ b0 Try.underlying129 rfl (by exact size_lm) ?_; (try go_simp)) | ((with_reducible show wpList _ _ _ (_ :: _) _ _); refine wpList_load_row rfl 131 _ rfl _ rfl _ _ _ _ b1 Try.underlying131 rfl (by exact size_cx) ?_; (try go_simp)))
          go_at_call 68
          refine (Left_any hm wc _).mono ?_
          rintro e w7 ⟨rfl, hb⟩
          have HS7 := Lib.hid (HS.out.step hb HS.out.ln)
          have HD7 := Lib.hid (box_below HD.out hb (box_lt HD.out))
          clear hb b0 b1 HS HD
          have b1 := HS7.out.bc
          have eL : (leftR m c == leftR m c) = true := by simp
          go_wp2_with ((refine wpLoadG (by (first | exact Go.Mix.wanted_none rfl | exact Go.Mix.wanted_tt rfl rfl rfl | exact Go.Mix.wanted_ff rfl rfl rfl)) 131 _ rfl _ rfl _ _ _ _ b1 Try.underlying131 rfl (by exact size_cx) ?_; (try go_simp)))
          go_at_call 69
          refine (Total_any wc _).mono ?_
          rintro e w8 ⟨rfl, hb⟩
          have HS8 := Lib.hid (HS7.out.step hb HS7.out.ln)
          have HD8 := Lib.hid (box_below HD7.out hb (box_lt HD7.out))
          clear hb b1 HS7 HD7
          have eT : (c.tot == c.tot) = true := by simp
          have b0 := HS8.out.bm
          have b1 := HS8.out.bc
          have bd := HD8.out
          have heq := HEQ.out
          go_wp2_with (first | (refine wpLoadG (by (first | exact Go.Mix.wanted_none rfl | exact Go.Mix.wanted_tt rfl rfl rfl | exact Go.Mix.wanted_ff rfl rfl rfl)) 129 _ rfl _ rfl _ _ _ _ b0 Try.underlying129 rfl (by exact size_lm) ?_; (try go_simp)) | (refine wpLoadG (by (first | exact Go.Mix.wanted_none rfl | exact Go.Mix.wanted_tt rfl rfl rfl | exact Go.Mix.wanted_ff rfl rfl rfl)) 131 _ rfl _ rfl _ _ _ _ b1 Try.underlying131 rfl (by exact size_cx) ?_; (try go_simp)) | (refine wpLoadG (by (first | exact Go.Mix.wanted_none rfl | exact Go.Mix.wanted_tt rfl rfl rfl | exact Go.Mix.wanted_ff rfl rfl rfl)) 131 _ rfl _ rfl _ _ _ _ bd Try.underlying131 rfl (by exact size_cx) ?_; (try go_simp)))
          go_at_call 65
          refine (May_det (d := c) (b := true) none 0 0 0 [] _ hm wc rfl (Nat.zero_le _) (Rd.none_ _ _ _) rfl).mono ?_
          rintro e w9 ⟨rfl, hb⟩
          have HS9 := Lib.hid (HS8.out.step hb HS8.out.ln)
          clear hb b0 b1 bd HS8 HD8
          have b0 := HS9.out.bm
          have b1 := HS9.out.bc
          go_wp2_with (first | (refine wpLoadG (by (first | exact Go.Mix.wanted_none rfl | exact Go.Mix.wanted_tt rfl rfl rfl | exact Go.Mix.wanted_ff rfl rfl rfl)) 129 _ rfl _ rfl _ _ _ _ b0 Try.underlying129 rfl (by exact size_lm) ?_; (try go_simp)) | (refine wpLoadG (by (first | exact Go.Mix.wanted_none rfl | exact Go.Mix.wanted_tt rfl rfl rfl | exact Go.Mix.wanted_ff rfl rfl rfl)) 131 _ rfl _ rfl _ _ _ _ b1 Try.underlying131 rfl (by exact size_cx) ?_; (try go_simp)))
          go_at_call 71
          refine (Spent_any _ hm wc).mono ?_
          rintro e w10 ⟨rfl, hb⟩
          have HB10 := Lib.hid (HS9.out.step hb HS9.out.ln).be
          have hs6 := spentS_lt m c 6 (Nat.le_refl _)
          obtain ⟨S, hSS⟩ : ∃ S, S = spentS m c 6 := ⟨_, rfl⟩
          rw [← hSS] at hs6 ⊢
          clear hb b0 b1 HS9 hSS
          go_wp2_with fail
          go_at_call 72
          refine (Bs.Next_any S 6 _ (by omega)).mono ?_
          rintro e w11 ⟨r, rfl, hr, hb⟩
          have hr1 := next_none hs6 hr
          subst hr1
          have HB11 := Lib.hid (HB10.out.trans (hb.mono HB10.out.size))
          clear hb hr HB10
          go_wp2_with fail
          go_ret
          exact ⟨rfl, HB11.out⟩
end Go.Proofs.Ytiaaafjpnijphaa
