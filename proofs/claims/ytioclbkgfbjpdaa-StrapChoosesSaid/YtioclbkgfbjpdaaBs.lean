/- Sets of units: With, Has, only (as in Cel5, alone). -/
import Derived.Test.YtioclbkgfbjpdaaChecked
import Derived.WalkKit
import Derived.WalkSpells
import Derived.Outline
import Derived.Lib.Hide
import Derived.OpenShut
import Derived.Below
import Derived.Handy
import Derived.LoopTactic
import Derived.Laws.ShiftsVarLaws
import Derived.Test.YtioclbkgfbjpdaaKeep
import Derived.Test.YtioclbkgfbjpdaaFrame
import Derived.Test.YtioclbkgfbjpdaaRd
namespace Go.Proofs.Ytioclbkgfbjpdaa.Bs
open Go.RowKit Go.Own
set_option linter.unusedVariables false
set_option linter.unusedSimpArgs false
theorem wraps_u16 (n : Int) (h0 : 0 ≤ n) (h1 : n < 2 ^ 16) : IntKind.u16.wrap n = n := by rw [IntKind.wrap_u16]; omega
theorem ret_int' {k : IntKind} {a b : Int} (h : a = b) : Value.int k a = Value.int k b := by rw [h]
theorem orNatJ (k : IntKind) (j : Nat) (hj : j ≤ k.bits) (hk : ∀ n : Int, 0 ≤ n → n < 2 ^ j → k.wrap n = n) (a b : Nat) (ha : a < 2 ^ j) (hb : b < 2 ^ j) : bits .or k (a : Int) (b : Int) = ((a ||| b : Nat) : Int) := by
  have hp : 2 ^ j ≤ 2 ^ k.bits := Nat.pow_le_pow_right (by decide) hj
  have ha' : a % 2 ^ k.bits = a := Nat.mod_eq_of_lt (Nat.lt_of_lt_of_le ha hp)
  have hb' : b % 2 ^ k.bits = b := Nat.mod_eq_of_lt (Nat.lt_of_lt_of_le hb hp)
  simp only [bits, BitVec.ofInt_natCast, BitVec.toNat_or, BitVec.toNat_ofNat, ha', hb']
  exact hk _ (Int.natCast_nonneg _) (by exact_mod_cast Nat.or_lt_two_pow ha hb)
theorem andNatJ (k : IntKind) (j : Nat) (hj : j ≤ k.bits) (hk : ∀ n : Int, 0 ≤ n → n < 2 ^ j → k.wrap n = n) (a b : Nat) (ha : a < 2 ^ j) (hb : b < 2 ^ j) : bits .and k (a : Int) (b : Int) = ((a &&& b : Nat) : Int) := by
  have hp : 2 ^ j ≤ 2 ^ k.bits := Nat.pow_le_pow_right (by decide) hj
  have ha' : a % 2 ^ k.bits = a := Nat.mod_eq_of_lt (Nat.lt_of_lt_of_le ha hp)
  have hb' : b % 2 ^ k.bits = b := Nat.mod_eq_of_lt (Nat.lt_of_lt_of_le hb hp)
  simp only [bits, BitVec.ofInt_natCast, BitVec.toNat_and, BitVec.toNat_ofNat, ha', hb']
  exact hk _ (Int.natCast_nonneg _) (by exact_mod_cast Nat.lt_of_le_of_lt Nat.and_le_left ha)
theorem or16 (a b : Nat) (ha : a < 65536) (hb : b < 65536) : bits .or .u16 (a : Int) (b : Int) = ((a ||| b : Nat) : Int) := orNatJ .u16 16 (by decide) wraps_u16 a b ha hb
theorem and16 (a b : Nat) (ha : a < 65536) (hb : b < 65536) : bits .and .u16 (a : Int) (b : Int) = ((a &&& b : Nat) : Int) := andNatJ .u16 16 (by decide) wraps_u16 a b ha hb
/-- A unit's own set. -/
def bit1 (i : Int) : Nat := if 0 ≤ i ∧ i < 16 then 2 ^ i.toNat else 0
theorem bit1_lt (i : Int) : bit1 i < 65536 := by
  unfold bit1
  split
  · exact Nat.lt_of_lt_of_le (Nat.pow_lt_pow_right (by decide) (show i.toNat < 16 by omega)) (by decide)
  · decide

set_option maxHeartbeats 1000000 in
theorem only_any (i : Int) (w : World) : Calls Try.prog 81 #[.int .i64 i] w fun e w' => e = .returned (.int .u16 (bit1 i : Nat)) ∧ w = w' := by
  by_cases h0 : i < 0
  · have hb : bit1 i = 0 := by unfold bit1; rw [if_neg (by omega)]
    rw [hb]
    go_enter Try.func81, Try.ntmps81
    go_wp2
    go_ret
    exact ⟨rfl, rfl⟩
  · by_cases h1 : 16 ≤ i
    · have hb : bit1 i = 0 := by unfold bit1; rw [if_neg (by omega)]
      rw [hb]
      go_enter Try.func81, Try.ntmps81
      go_wp2
      go_ret
      exact ⟨rfl, rfl⟩
    · have hb : bit1 i = 2 ^ i.toNat := by unfold bit1; rw [if_pos (by omega)]
      rw [hb]
      go_enter Try.func81, Try.ntmps81
      go_wp2
      go_ret
      refine ⟨?_, rfl⟩
      have h2 : 2 ^ i.toNat < 65536 := by have := bit1_lt i; rwa [hb] at this
      have e : ((2 : Int) ^ i.toNat) = ((2 ^ i.toNat : Nat) : Int) := by push_cast; rfl
      have e2 : IntKind.u16.wrap ((2 : Int) ^ i.toNat) = ((2 ^ i.toNat : Nat) : Int) := by rw [e, wraps_u16 _ (by omega) (by omega)]
      exact congrArg Ending.returned (ret_int' e2)

def iv (l : List Int) : Nat → Value := fun i => .int .i64 (l.getD i 0)
/-- A set with some units. -/
def withS (s : Nat) (l : List Int) : Nat := l.foldl (fun s i => s ||| bit1 i) s
theorem withS_snoc (s : Nat) (l : List Int) (i : Int) : withS s (l ++ [i]) = withS s l ||| bit1 i := by simp [withS]
theorem withS_lt {s : Nat} (h : s < 65536) (l : List Int) : withS s l < 65536 := by
  induction l generalizing s with
  | nil => exact h
  | cons i l ih => exact ih (Nat.or_lt_two_pow (n := 16) h (bit1_lt i))
theorem takeI_succ (l : List Int) {k : Nat} (h : k < l.length) : l.take (k + 1) = l.take k ++ [l.getD k 0] := by
  rw [List.take_add_one, List.getElem?_eq_getElem h]
  simp [List.getD, h]

set_option maxHeartbeats 1000000 in
theorem With_any (a : Option Addr) (len cap n s : Nat) (l : List Int) (w : World) (hs : s < 65536) (hl : l.length = len) (hn : n ≤ w.heap.size) (hr : Rd n w a len cap (iv l)) :
    Calls Try.prog 79 #[.int .u16 s, .slice a len cap] w fun e w' => e = .returned (.int .u16 (withS s l : Nat)) ∧ Below w.heap.size w w' := by
  have h1 := hr.le
  have h2 := hr.top
  unfold maxLen at h2
  go_enter Try.func79, Try.ntmps79
  go_wp2
  go_loopw [0, 9] (fun v i wr => ∃ k : Nat, k ≤ len ∧ i = .int .i64 k ∧ v = .int .u16 (withS s (l.take k) : Nat) ∧ Below w.heap.size w wr) (fun _ i _ => len - (intOf i).toNat)
  case atStart => exact ⟨0, Nat.zero_le _, rfl, rfl, Below.refl _ _⟩
  case round =>
    obtain ⟨k, hk, rfl, rfl, hB⟩ := hrel
    by_cases hlt : k < len
    · obtain ⟨b, off, rfl, _, hc⟩ := (hr.below' hB hn).at hlt
      unfold iv at hc
      have hx := withS_lt hs (l.take k)
      have ht : withS s (l.take (k + 1)) = withS s (l.take k) ||| bit1 (l.getD k 0) := by rw [takeI_succ l (by omega), withS_snoc]
      obtain ⟨x, hx'⟩ : ∃ x, x = l.getD k 0 := ⟨_, rfl⟩
      obtain ⟨v, hv'⟩ : ∃ v, v = withS s (l.take k) := ⟨_, rfl⟩
      rw [← hx'] at hc ht
      rw [← hv'] at hx ht ⊢
      have hor := or16 v (bit1 x) hx (bit1_lt x)
      have HT := Lib.hid ht
      have HB := Lib.hid hB
      clear ht hx' hv' hB
      go_wp2_with fail
      refine (only_any x _).mono ?_
      rintro e w2 ⟨rfl, rfl⟩
      go_wp2
      go_roundw
      case rel => exact ⟨k + 1, by omega, by go_num, by rw [HT.out], HB.out⟩
      case measure => simp [intOf]; omega
    · obtain rfl : k = len := by omega
      have ht : l.take k = l := List.take_of_length_le (by omega)
      rw [ht]
      clear ht
      go_wp2
      go_ret
      exact ⟨rfl, hB⟩
set_option maxHeartbeats 1000000 in
theorem Has_any (s : Nat) (i : Int) (w : World) (hs : s < 65536) :
    Calls Try.prog 41 #[.int .u16 s, .int .i64 i] w fun e w' => e = .returned (.bool (decide (s &&& bit1 i ≠ 0))) ∧ Below w.heap.size w w' := by
  have ha := and16 s (bit1 i) hs (bit1_lt i)
  obtain ⟨q, hq⟩ : ∃ q, q = s &&& bit1 i := ⟨_, rfl⟩
  rw [← hq] at ha ⊢
  clear hq
  by_cases h : q = 0
  · have e : decide (q ≠ 0) = false := by simp [h]
    rw [e]
    rw [h] at ha
    clear e h
    go_enter Try.func41, Try.ntmps41
    go_wp2_with fail
    refine (only_any i _).mono ?_
    rintro e w2 ⟨rfl, rfl⟩
    go_wp2
    go_ret
    exact ⟨rfl, Below.refl _ _⟩
  · have e : decide (q ≠ 0) = true := by simp [h]
    rw [e]
    clear e
    have hq0 : ((q : Int) != 0) = true := by simp only [bne_iff_ne]; omega
    go_enter Try.func41, Try.ntmps41
    go_wp2_with fail
    refine (only_any i _).mono ?_
    rintro e w2 ⟨rfl, rfl⟩
    go_wp2
    go_ret
    exact ⟨rfl, Below.refl _ _⟩
end Go.Proofs.Ytioclbkgfbjpdaa.Bs
