/- Sets of units: Next, First, Less, And. -/
import Derived.Test.YtioclbkgfbjpdaaBs
namespace Go.Proofs.Ytioclbkgfbjpdaa.Bs
open Go.RowKit Go.Own
set_option linter.unusedVariables false
set_option linter.unusedSimpArgs false
def has (s : Nat) (j : Nat) : Bool := decide (s &&& bit1 (j : Nat) ≠ 0)
/-- The first one from i on; none: -1. -/
def NextIs (s i : Nat) (r : Int) : Prop := (r = -1 ∧ ∀ j, i ≤ j → j < 16 → has s j = false) ∨ ∃ j : Nat, r = (j : Int) ∧ i ≤ j ∧ j < 16 ∧ has s j = true ∧ ∀ k, i ≤ k → k < j → has s k = false
theorem run_maxJ {P : Program} (ats : Array TypeId) (ty : TypeId) (k : IntKind) (a b : Int) (w : World) : (Builtin.max_ ats ty #[.int k a, .int k b]).run P w = .ok (.int k (max a b)) w := by
  have e2 : (Builtin.max2 (.int k a) (.int k b)).run P w = .ok (.int k (max a b)) w := by
    unfold Builtin.max2
    by_cases h : a < b
    · have e : max a b = b := by omega
      simp [e, h]
    · have e : max a b = a := by omega
      simp [e, h]
  simp [Builtin.max_, e2]
set_option maxHeartbeats 2000000 in
theorem Next_any (s : Nat) (i : Int) (w : World) (hs : s < 65536) : Calls Try.prog 96 #[.int .u16 s, .int .i64 i] w fun e w' => ∃ r, e = .returned (.int .i64 r) ∧ NextIs s (max i 0).toNat r ∧ Below w.heap.size w w' := by
  have hmx := fun (w : World) => run_maxJ (P := Try.prog) #[3, 3] 3 .i64 i 0 w
  obtain ⟨n, hn⟩ : ∃ n : Nat, max i 0 = (n : Int) := ⟨(max i 0).toNat, by omega⟩
  rw [hn] at hmx
  rw [hn, Int.toNat_natCast]
  clear hn
  go_enter Try.func96, Try.ntmps96
  go_wp2_with fail
  by_cases h16 : 16 ≤ n
  · have hz : NextIs s n (-1) := .inl ⟨rfl, fun j h1 h2 => by omega⟩
    have HZ := Lib.hid hz
    clear hz hmx
    refine wp_loop_rounds 1 ?_
    rw [rounds_succ]
    go_wp2
    go_ret
    exact ⟨_, rfl, HZ.out, Below.refl _ _⟩
  · clear hmx
    go_loopw [1] (fun v wr => ∃ k : Nat, n ≤ k ∧ k ≤ 16 ∧ v = .int .i64 k ∧ (∀ j, n ≤ j → j < k → has s j = false) ∧ Below w.heap.size w wr) (fun v _ => 16 - (intOf v).toNat)
    case atStart => exact ⟨n, Nat.le_refl _, by omega, rfl, fun j h1 h2 => by omega, Below.refl _ _⟩
    case round =>
      obtain ⟨k, hk1, hk2, rfl, hall, hB⟩ := hrel
      have HALL := Lib.hid hall
      have HB := Lib.hid hB
      clear hall hB
      by_cases hlt : k < 16
      · obtain ⟨t, ht⟩ : ∃ t, t = has s k := ⟨_, rfl⟩
        have HT := Lib.hid ht
        clear ht
        go_wp2_with fail
        go_at_call 41
        refine (Has_any s k _ hs).mono ?_
        rintro e w2 ⟨rfl, hb⟩
        rw [show decide (s &&& bit1 ((k : Nat) : Int) ≠ 0) = t from HT.out.symm]
        have HB2 := Lib.hid (HB.out.trans (hb.mono HB.out.size))
        clear hb HB
        cases t
        · have HX := Lib.hid (show ∀ j, n ≤ j → j < k + 1 → has s j = false from fun j h1 h2 => by
            by_cases e : j = k
            · subst e; exact HT.out.symm
            · exact HALL.out j h1 (by omega))
          go_wp2_with fail
          go_roundw
          case rel => exact ⟨k + 1, by omega, by omega, by go_num, HX.out, HB2.out⟩
          case measure => simp [intOf]; omega
        · have HX := Lib.hid (show NextIs s n (k : Int) from .inr ⟨k, rfl, hk1, hlt, HT.out.symm, HALL.out⟩)
          go_wp2
          go_ret
          exact ⟨_, rfl, HX.out, HB2.out⟩
      · obtain rfl : k = 16 := by omega
        have HX := Lib.hid (show NextIs s n (-1) from .inl ⟨rfl, fun j h1 h2 => HALL.out j h1 (by omega)⟩)
        go_wp2
        go_ret
        exact ⟨_, rfl, HX.out, HB.out⟩
set_option maxHeartbeats 1000000 in
theorem First_any (s : Nat) (w : World) (hs : s < 65536) : Calls Try.prog 95 #[.int .u16 s] w fun e w' => ∃ r, e = .returned (.int .i64 r) ∧ NextIs s 0 r ∧ Below w.heap.size w w' := by
  go_enter Try.func95, Try.ntmps95
  go_wp2_with fail
  go_at_call 96
  refine (Next_any s 0 _ hs).mono ?_
  rintro e w1 ⟨r, rfl, hr, hb⟩
  have HR := Lib.hid hr
  clear hr
  go_wp2
  go_ret
  exact ⟨_, rfl, HR.out, hb⟩
set_option maxHeartbeats 1000000 in
theorem And_any (a b : Nat) (w : World) (ha : a < 65536) (hb : b < 65536) : Calls Try.prog 38 #[.int .u16 a, .int .u16 b] w fun e w' => e = .returned (.int .u16 (a &&& b : Nat)) ∧ w = w' := by
  have h := and16 a b ha hb
  go_enter Try.func38, Try.ntmps38
  go_wp2
  go_ret
  exact ⟨rfl, rfl⟩
end Go.Proofs.Ytioclbkgfbjpdaa.Bs
