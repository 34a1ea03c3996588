/- Layer 20: the document's units, what one has and the other one hasn't, lists; the law's comparison of lists. -/
import Derived.Test.YtioclbkgfbjpdaaTn2
namespace Go.Proofs.Ytioclbkgfbjpdaa
open Go.RowKit Go.Own Bs
set_option linter.unusedVariables false
set_option linter.unusedSimpArgs false
theorem mod_bit (x u : Nat) : x % 2 ^ u ||| (x &&& 2 ^ u) = x % 2 ^ (u + 1) := by
  refine Nat.eq_of_testBit_eq fun i => ?_
  simp only [Nat.testBit_or, Nat.testBit_and, Nat.testBit_mod_two_pow, Nat.testBit_two_pow]
  by_cases h1 : i < u
  · have : i < u + 1 := by omega
    have h3 : ¬ u = i := by omega
    simp [h1, this, h3]
  · by_cases h2 : u = i
    · subst h2; simp
    · have : ¬ i < u + 1 := by omega
      simp [h1, h2, this]
theorem bit1_and (x : Int) (u : Nat) (hu : u < 16) : bit1 x &&& 2 ^ u = if x = (u : Int) then 2 ^ u else 0 := by
  unfold bit1
  by_cases h : x = (u : Int)
  · subst h
    rw [if_pos ⟨by omega, by omega⟩, if_pos rfl, Int.toNat_natCast, Nat.and_self]
  · rw [if_neg h]
    split
    · rename_i h0
      refine Nat.eq_of_testBit_eq fun i => ?_
      simp only [Nat.testBit_and, Nat.testBit_two_pow, Nat.zero_testBit]
      by_cases h1 : x.toNat = i
      · have : ¬ u = i := by omega
        simp [h1, this]
      · simp [h1]
    · simp
/-- The document's units, so far: below u all, of u itself those of the first k roles. -/
def refU (c : Nat → Int) (u k : Nat) : Nat := unitsS c 6 % 2 ^ u ||| (unitsS c k &&& 2 ^ u)
theorem refU_zero (c : Nat → Int) (u : Nat) : refU c u 0 = unitsS c 6 % 2 ^ u := by simp [refU, unitsS]
theorem refU_six (c : Nat → Int) (u : Nat) : refU c u 6 = unitsS c 6 % 2 ^ (u + 1) := mod_bit _ _
theorem refU_step (c : Nat → Int) {u k : Nat} (hu : u < 16) : refU c u (k + 1) = if c k = (u : Int) then refU c u k ||| 2 ^ u else refU c u k := by
  unfold refU
  show _ ||| ((unitsS c k ||| bit1 (c k)) &&& 2 ^ u) = _
  rw [Nat.and_or_distrib_right, bit1_and _ _ hu]
  split
  · rw [Nat.or_assoc]
  · rw [Nat.or_zero]
theorem refU_lt (c : Nat → Int) (u k : Nat) : refU c u k < 65536 :=
  Nat.or_lt_two_pow (n := 16) (Nat.lt_of_le_of_lt (Nat.mod_le _ _) (unitsS_lt c 6)) (Nat.lt_of_le_of_lt Nat.and_le_left (unitsS_lt c k))
theorem pow16 {u : Nat} (h : u < 16) : 2 ^ u < 65536 := Nat.lt_of_lt_of_le (Nat.pow_lt_pow_right (by decide) h) (by decide)
theorem wrap_pow {u : Nat} (h : u < 16) : IntKind.u16.wrap ((2 : Int) ^ u) = ((2 ^ u : Nat) : Int) := by
  have e : ((2 : Int) ^ u) = ((2 ^ u : Nat) : Int) := by push_cast; rfl
  rw [e, wraps_u16 _ (Int.natCast_nonneg _) (by have := pow16 h; exact_mod_cast this)]
@[go_sem] theorem ixra (w : World) (a b c d e f : Int) : (Instr.index 75 (.agg #[.int .i8 a, .int .i8 b, .int .i8 c, .int .i8 d, .int .i8 e, .int .i8 f]) (.int .i64 0)).run Try.prog w = .ok (.int .i8 a) w := by kernel_rfl
@[go_sem] theorem ixrb (w : World) (a b c d e f : Int) : (Instr.index 75 (.agg #[.int .i8 a, .int .i8 b, .int .i8 c, .int .i8 d, .int .i8 e, .int .i8 f]) (.int .i64 1)).run Try.prog w = .ok (.int .i8 b) w := by kernel_rfl
@[go_sem] theorem ixrc (w : World) (a b c d e f : Int) : (Instr.index 75 (.agg #[.int .i8 a, .int .i8 b, .int .i8 c, .int .i8 d, .int .i8 e, .int .i8 f]) (.int .i64 2)).run Try.prog w = .ok (.int .i8 c) w := by kernel_rfl
@[go_sem] theorem ixrd (w : World) (a b c d e f : Int) : (Instr.index 75 (.agg #[.int .i8 a, .int .i8 b, .int .i8 c, .int .i8 d, .int .i8 e, .int .i8 f]) (.int .i64 3)).run Try.prog w = .ok (.int .i8 d) w := by kernel_rfl
@[go_sem] theorem ixre (w : World) (a b c d e f : Int) : (Instr.index 75 (.agg #[.int .i8 a, .int .i8 b, .int .i8 c, .int .i8 d, .int .i8 e, .int .i8 f]) (.int .i64 4)).run Try.prog w = .ok (.int .i8 e) w := by kernel_rfl
@[go_sem] theorem ixrf (w : World) (a b c d e f : Int) : (Instr.index 75 (.agg #[.int .i8 a, .int .i8 b, .int .i8 c, .int .i8 d, .int .i8 e, .int .i8 f]) (.int .i64 5)).run Try.prog w = .ok (.int .i8 f) w := by kernel_rfl
theorem cr_index (c : Nat → Int) {k : Nat} (hk : k < 6) (w : World) : (Instr.index 75 (.agg #[.int .i8 (c 0), .int .i8 (c 1), .int .i8 (c 2), .int .i8 (c 3), .int .i8 (c 4), .int .i8 (c 5)]) (.int .i64 (k : Nat))).run Try.prog w = .ok (.int .i8 (c k)) w := by
  have : k = 0 ∨ k = 1 ∨ k = 2 ∨ k = 3 ∨ k = 4 ∨ k = 5 := by omega
  rcases this with rfl | rfl | rfl | rfl | rfl | rfl
  · exact ixra _ _ _ _ _ _ _
  · exact ixrb _ _ _ _ _ _ _
  · exact ixrc _ _ _ _ _ _ _
  · exact ixrd _ _ _ _ _ _ _
  · exact ixre _ _ _ _ _ _ _
  · exact ixrf _ _ _ _ _ _ _
theorem less_sub {a b : Nat} (ha : a < 65536) (hb : b < 65536) : a - (a &&& b) = lessS a b := by
  have e : (BitVec.ofNat 16 a &&& BitVec.ofNat 16 b) + (BitVec.ofNat 16 a &&& ~~~ BitVec.ofNat 16 b) = BitVec.ofNat 16 a := by
    rw [BitVec.add_eq_or_of_and_eq_zero _ _ (by ext i hi; simp; intro h1 h2 h3; simp [h2]), ← BitVec.and_or_distrib_left]
    simp only [BitVec.or_not_self]
    exact BitVec.and_allOnes
  have h := congrArg BitVec.toNat e
  rw [BitVec.toNat_add, BitVec.toNat_and, BitVec.toNat_and, BitVec.toNat_not, BitVec.toNat_ofNat, BitVec.toNat_ofNat, Nat.mod_eq_of_lt (show a < 2 ^ 16 from ha), Nat.mod_eq_of_lt (show b < 2 ^ 16 from hb)] at h
  have e2 : 2 ^ 16 - 1 - b = 65535 - b := rfl
  rw [e2] at h
  have h1 : a &&& b ≤ a := Nat.and_le_left
  have h2 : a &&& (65535 - b) ≤ a := Nat.and_le_left
  unfold lessS
  omega
theorem has_div (s i : Nat) (h : i < 16) : has s i = decide (s / 2 ^ i % 2 = 1) := by
  unfold has
  have e : bit1 (i : Nat) = 2 ^ i := by unfold bit1; rw [if_pos ⟨by omega, by omega⟩, Int.toNat_natCast]
  rw [e, ← Nat.testBit_eq_decide_div_mod_eq]
  cases hb : s.testBit i
  · have : s &&& 2 ^ i = 0 := by
      refine Nat.eq_of_testBit_eq fun j => ?_
      simp only [Nat.testBit_and, Nat.testBit_two_pow, Nat.zero_testBit]
      by_cases h1 : i = j
      · subst h1; simp [hb]
      · simp [h1]
    simp [this]
  · have : (s &&& 2 ^ i).testBit i = true := by simp [Nat.testBit_and, hb]
    have h0 : s &&& 2 ^ i ≠ 0 := by intro h0; rw [h0] at this; simp at this
    simp [h0]
set_option maxRecDepth 100000 in
set_option maxHeartbeats 4000000 in
theorem List_any (s : Nat) (w : World) (hs : s < 65536) : Calls Try.prog 74 #[.int .u16 (s : Nat)] w fun e w' => ∃ v, e = .returned v ∧ w'.ownsRow w.heap.size 3 1 v (upTo s 16).length (zl (upTo s 16)) ∧ Below w.heap.size w w' := by
  obtain ⟨i0, hi, hz0, hz1, hz2⟩ := info_parts info_intZ
  go_enter Try.func74, Try.ntmps74
  go_wp2_with fail
  go_loopw [3, 4] (fun v i wr => ∃ k : Nat, k ≤ 16 ∧ i = .int .i64 (k : Nat) ∧ wr.ownsRow w.heap.size 3 1 v (upTo s k).length (zl (upTo s k)) ∧ Below w.heap.size w wr) (fun _ i _ => 16 - (intOf i).toNat)
  case atStart => exact ⟨0, Nat.zero_le _, rfl, by simpa [zl, upTo] using World.ownsRow_nil _ _ _ _, Below.refl _ _⟩
  case round =>
    obtain ⟨k, hk, rfl, hO, hB⟩ := hrel
    by_cases hlt : k < 16
    · have hh := has_div s k hlt
      have hle := upTo_len s k
      have HO := Lib.hid hO
      have HB := Lib.hid hB
      have hsz := hB.size
      have ep : (s : Int) / 2 ^ k = ((s / 2 ^ k : Nat) : Int) := by push_cast; rfl
      obtain ⟨q, hq⟩ : ∃ q, q = s / 2 ^ k := ⟨_, rfl⟩
      rw [← hq] at ep hh
      have hq1 : q < 65536 := by rw [hq]; exact Nat.lt_of_le_of_lt (Nat.div_le_self _ _) hs
      have HH := Lib.hid hh
      have HM := Lib.hid hle
      clear hO hB hh hq hle
      by_cases hb : q % 2 = 1
      · have e1 : ((q : Int) % 2 == 1) = true := by simp; omega
        have hy : upTo s (k + 1) = upTo s k ++ [k] := upTo_yes (by rw [HH.out]; simpa using hb)
        have HE := Lib.hid hy
        have hs2 : (upTo s k).length ≤ 16 := by have := HM.out; omega
        clear hy hb
        go_wp2_with (at_builtin; refine wpList_append_own _ rfl _ _ 89 rfl w.heap.size 3 i0 (.int .i64 0) 1 8 Try.underlying89 hi hz0 hz1 hz2 rfl (by decide) _ _ _ rfl (HO.out.alloc _) ⟨wr.heap.size, 0, none⟩ 1 1 [.int .i64 ((k : Nat) : Int)] rfl rfl (int_new _ _) (by simp [Value.oneCell']) (by unfold maxLen; omega) (by omega) (by simp; omega) ?_; intro v4 w4 hown4 hgr4 _)
        go_roundw
        case rel =>
          refine ⟨k + 1, by omega, by go_num, ?_, ?_⟩
          · rw [HE.out, List.length_append, show zl (upTo s k ++ [k]) = zl (upTo s k) ++ [.int .i64 ((k : Nat) : Int)] by simp [zl]]
            exact hown4
          · exact (HB.out.alloc hsz _).grown hgr4 (by simp; omega) (fun j hj => (HO.out.lt j hj).1)
        case measure => simp [intOf]; omega
      · have e1 : ((q : Int) % 2 == 1) = false := by simp; omega
        have hy : upTo s (k + 1) = upTo s k := upTo_skip (Nat.le_succ k) (fun j h1 h2 => by
          obtain rfl : j = k := by omega
          rw [HH.out]; simpa using hb)
        have HE := Lib.hid hy
        clear hy hb
        go_wp2_with fail
        go_roundw
        case rel => exact ⟨k + 1, by omega, by go_num, by rw [HE.out]; exact HO.out, HB.out⟩
        case measure => simp [intOf]; omega
    · obtain rfl : k = 16 := by omega
      have HO := Lib.hid hO
      clear hO
      go_wp2_with fail
      go_ret
      exact ⟨_, rfl, HO.out, hB⟩
end Go.Proofs.Ytioclbkgfbjpdaa
