/- Layer 22: levels, alarms. -/
import Derived.Test.YtinaimacocgemaaFix
import Derived.Test.YtinaimacocgemaaKeep
import Derived.Test.YtinaimacocgemaaBs
import Derived.Test.YtinaimacocgemaaFlo3
import Derived.Laws.ResultCell
import Derived.Deep.WholeRow
import Derived.Deep.CutBlock
import Derived.Deep.DeepCutAuto
import Derived.Deep.QuietTactic
import Derived.BigQuiet
namespace Go.Proofs.Ytinaimacocgemaa
open Go.RowKit Go.Own Bs
set_option linter.unusedVariables false
set_option linter.unusedSimpArgs false
set_option maxHeartbeats 400000 in
theorem isLevel_any (l : Nat) (w : World) (h : l < 256) : Calls Try.prog 98 #[.int .u8 (l : Nat)] w fun e w' => e = .returned (.bool (decide (l < 5))) ∧ w = w' := by
  go_enter Try.func98, Try.ntmps98
  go_wp2
  go_ret
  exact ⟨congrArg (fun b => Ending.returned (.bool b)) (decide_eq_decide.2 (by omega)), rfl⟩
/-- Is a level allowed? -/
def al (inh l : Nat) : Bool := decide (l < 5) && decide (inh / 2 ^ l % 2 = 0)
theorem wraps_b8 (n : Int) (h0 : 0 ≤ n) (h1 : n < 2 ^ 8) : IntKind.u8.wrap n = n := by rw [IntKind.wrap_u8]; omega
theorem and1u8 (inh c : Nat) (hi : inh < 256) : (bits .and .u8 ((inh : Int) / (c : Int)) 1 == 0) = decide (inh / c % 2 = 0) := by
  have h1 : inh / c < 2 ^ 8 := Nat.lt_of_le_of_lt (Nat.div_le_self _ _) hi
  rw [show (inh : Int) / (c : Int) = ((inh / c : Nat) : Int) by simp, show (1 : Int) = ((1 : Nat) : Int) from rfl, andNatJ .u8 8 (by decide) wraps_b8 _ 1 h1 (by decide), Nat.and_one_is_mod]
  rcases Nat.mod_two_eq_zero_or_one (inh / c) with h | h <;> rw [h] <;> rfl
theorem al_of (inh : Nat) {l : Nat} (h : l < 5) : al inh l = decide (inh / 2 ^ l % 2 = 0) := by unfold al; rw [decide_eq_true h]; rfl
theorem al_no (inh : Nat) {l : Nat} (h : ¬ l < 5) : al inh l = false := by unfold al; rw [decide_eq_false h]; rfl
set_option maxHeartbeats 1000000 in
theorem Allowed_any (inh l : Nat) (w : World) (hi : inh < 256) (h : l < 256) : Calls Try.prog 50 #[.int .u8 (inh : Nat), .int .u8 (l : Nat)] w fun e w' => e = .returned (.bool (al inh l)) ∧ w = w' := by
  by_cases h5 : l < 5
  · rw [al_of inh h5]
    have k0 : (bits .and .u8 (inh : Int) 1 == 0) = decide (inh / 2 ^ 0 % 2 = 0) := by have := and1u8 inh 1 hi; simpa using this
    have k1 := and1u8 inh 2 hi
    have k2 := and1u8 inh 4 hi
    have k3 := and1u8 inh 8 hi
    have k4 := and1u8 inh 16 hi
    have hd : decide (l < 5) = true := decide_eq_true h5
    have K0 := Lib.hid k0
    have K1 := Lib.hid k1
    have K2 := Lib.hid k2
    have K3 := Lib.hid k3
    have K4 := Lib.hid k4
    clear k0 k1 k2 k3 k4
    rcases (by omega : l = 0 ∨ l = 1 ∨ l = 2 ∨ l = 3 ∨ l = 4) with rfl | rfl | rfl | rfl | rfl
    all_goals
      go_enter Try.func50, Try.ntmps50
      go_wp2_with (go_at_call 98; refine (isLevel_any _ _ (by decide)).mono ?_; rintro e w' ⟨rfl, rfl⟩)
      go_ret
      exact ⟨congrArg (fun b => Ending.returned (.bool b)) (by first | exact K0.out | exact K1.out | exact K2.out | exact K3.out | exact K4.out), rfl⟩
  · rw [al_no inh h5]
    have hd : decide (l < 5) = false := decide_eq_false h5
    have L := Lib.hid hd
    clear hd
    go_enter Try.func50, Try.ntmps50
    go_wp2_with (go_at_call 98; refine (isLevel_any _ _ h).mono ?_; rintro e w' ⟨rfl, rfl⟩; rw [L.out])
    go_ret
    exact ⟨rfl, rfl⟩
/-- May an alarm be? -/
def rgt (l : Nat) (u : Int) : Bool := decide (l < 5) && (decide (-1 ≤ u) && decide (u < 16))
set_option maxHeartbeats 1000000 in
theorem Right_any (l : Nat) (u : Int) (ev : Nat) (w : World) (h : l < 256) : Calls Try.prog 48 #[.agg #[.int .u8 ((l : Nat) : Int), .int .i64 u, .int .u8 ((ev : Nat) : Int)]] w fun e w' => e = .returned (.bool (rgt l u)) ∧ Below w.heap.size w w' := by
  unfold rgt
  have H5 := Lib.hid (isLevel_any l · h)
  by_cases h5 : l < 5
  · rw [decide_eq_true h5] at H5 ⊢
    rcases (by omega : u < -1 ∨ (-1 ≤ u ∧ u < 16) ∨ (-1 ≤ u ∧ ¬ u < 16)) with h1 | ⟨h1, h2⟩ | ⟨h1, h2⟩
    all_goals
      go_enter Try.func48, Try.ntmps48
      go_wp2_with (go_at_call 98; refine (H5.out _).mono ?_; rintro e w' ⟨rfl, rfl⟩)
      go_ret
      exact ⟨congrArg (fun b => Ending.returned (.bool b)) (by simp; try omega), by repeat' (first | (with_reducible exact Below.refl _ _) | (with_reducible assumption) | (with_reducible refine Below.setCell ?_ ?_ _) | (with_reducible refine Below.alloc ?_ ?_ _) | (with_reducible refine Below.drew ?_) | (with_reducible refine Below.drawsN ?_ _) | go_size)⟩
  · rw [decide_eq_false h5] at H5 ⊢
    go_enter Try.func48, Try.ntmps48
    go_wp2_with (go_at_call 98; refine (H5.out _).mono ?_; rintro e w' ⟨rfl, rfl⟩)
    go_ret
    exact ⟨rfl, by repeat' (first | (with_reducible exact Below.refl _ _) | (with_reducible assumption) | (with_reducible refine Below.setCell ?_ ?_ _) | (with_reducible refine Below.alloc ?_ ?_ _) | (with_reducible refine Below.drew ?_) | (with_reducible refine Below.drawsN ?_ _) | go_size)⟩
end Go.Proofs.Ytinaimacocgemaa
