/- Contracts of the helpers of layer 1's statements. -/
import Derived.Test.YtleodnnkdkgeeaaFix
import Derived.OpenShut
namespace Go.Proofs.Ytleodnnkdkgeeaa
open Go.RowKit
set_option linter.unusedVariables false

set_option maxHeartbeats 400000 in
theorem awake01 (w : World) : Calls Try.prog 15 #[] w fun e w' => e = .returned (.bool true) ∧ Below w.heap.size w w' := by
  have s1 : Fx.sat (Fx.sum [2147483647, 1, -5]) = 2147483643 := by decide
  have s2 : Fx.sat (3 * (-1) / Fx.pw 1) = -2 := by decide
  have S1 := Lib.hid s1
  have S2 := Lib.hid s2
  clear s1 s2
  go_enter Try.func15, Try.ntmps15
  go_wp2_with fail
  refine (Add_any w.heap.size 0 3 3 [2147483647, 1, -5] _ rfl (by decide) (by decide) ?_).mono ?_
  · intro j hj
    have hj : j < 3 := hj
    have : j = 0 ∨ j = 1 ∨ j = 2 := by omega
    rcases this with rfl | rfl | rfl <;> go_simp
  · rintro e w' ⟨rfl, rfl⟩
    rw [S1.out]
    go_wp2_with fail
    refine (Mul_any 3 (-1) 1 _ (by decide) (by decide) (by decide) (by decide)).mono ?_
    rintro e w' ⟨rfl, rfl⟩
    rw [S2.out]
    go_wp2_with fail
    go_ret
    exact ⟨rfl, (Below.refl _ _).alloc (Nat.le_refl _) _⟩

theorem ret_true {b : Bool} (h : b = true) : Ending.returned (.bool b) = .returned (.bool true) := by rw [h]

set_option maxHeartbeats 400000 in
theorem walk_FixqClamps (a l h : Int) (w : World) (w0 : (Lit.int .i32 a).wf = true) (w1 : (Lit.int .i32 l).wf = true) (w2 : (Lit.int .i32 h).wf = true) :
    Calls Try.prog 6 #[.int .i32 a, .int .i32 l, .int .i32 h] w fun e w' => e = .returned (.bool true) ∧ Below w.heap.size w w' := by
  have e1 : a < l → Fx.clamp a l h = l := fun h1 => by unfold Fx.clamp; rw [if_pos h1]
  have e2 : ¬ a < l → h < a → Fx.clamp a l h = h := fun h1 h2 => by unfold Fx.clamp; rw [if_neg h1, if_pos h2]
  have e3 : ¬ a < l → ¬ h < a → Fx.clamp a l h = a := fun h1 h2 => by unfold Fx.clamp; rw [if_neg h1, if_neg h2]
  have E1 := Lib.hid e1
  have E2 := Lib.hid e2
  have E3 := Lib.hid e3
  clear e1 e2 e3 w0 w1 w2
  by_cases h1 : a < l
  · go_enter Try.func6, Try.ntmps6
    go_wp2_with (first | (go_at_call 15; refine (awake01 _).mono ?_; rintro e w1 ⟨rfl, hb⟩) | (go_at_call 27; (refine (Clamp_any _ _ _ _).mono ?_); rintro e w' ⟨rfl, rfl⟩))
    go_ret
    exact ⟨ret_true (by rw [E1.out h1]; simp), hb⟩
  · by_cases h2 : h < a
    · go_enter Try.func6, Try.ntmps6
      go_wp2_with (first | (go_at_call 15; refine (awake01 _).mono ?_; rintro e w1 ⟨rfl, hb⟩) | (go_at_call 27; (refine (Clamp_any _ _ _ _).mono ?_); rintro e w' ⟨rfl, rfl⟩))
      go_ret
      exact ⟨ret_true (by rw [E2.out h1 h2]; simp), hb⟩
    · go_enter Try.func6, Try.ntmps6
      go_wp2_with (first | (go_at_call 15; refine (awake01 _).mono ?_; rintro e w1 ⟨rfl, hb⟩) | (go_at_call 27; (refine (Clamp_any _ _ _ _).mono ?_); rintro e w' ⟨rfl, rfl⟩))
      go_ret
      exact ⟨ret_true (by rw [E3.out h1 h2]; simp), hb⟩

set_option maxHeartbeats 400000 in
theorem walk_FixqTimes (a b q : Int) (w : World) (w0 : (Lit.int .i32 a).wf = true) (w1 : (Lit.int .i32 b).wf = true) (w2 : (Lit.int .i64 q).wf = true) :
    Calls Try.prog 4 #[.int .i32 a, .int .i32 b, .int .i64 q] w fun e w' => e = .returned (.bool true) ∧ Below w.heap.size w w' := by
  obtain ⟨a0, a1⟩ := bounds_i32 w0
  obtain ⟨b0, b1⟩ := bounds_i32 w1
  clear w0 w1 w2
  have p0 := Fx.pw_pos q
  have p1 := Fx.pw_hi q
  have m0 := Fx.mul_bd a b 2147483648 2147483648 (by omega) (by omega) (by omega) (by omega)
  have m1 := Fx.mul_bd a (Fx.pw q) 2147483648 2147483648 (by omega) (by omega) (by omega) (by omega)
  have d0 := Fx.ediv_bd (a * b) (Fx.pw q) 4611686018427387904 p0 (by omega) (by omega)
  have d1 := Fx.tdiv_bd (a * Fx.pw q) b 4611686018427387904 (by omega) (by omega)
  have F0 := Lib.hid (Fx.quo_zero a q)
  have F1 := Lib.hid (Fx.quo_other a b q)
  by_cases hb : b = 0
  · subst hb
    by_cases h1 : 0 < a
    · go_enter Try.func4, Try.ntmps4
      go_wp2_with (first | (go_at_call 15; refine (awake01 _).mono ?_; rintro e w1 ⟨rfl, hb⟩) | (go_at_call 22; (refine (Power_any _ _).mono ?_); rintro e w' ⟨rfl, rfl⟩) | (go_at_call 17; (refine (rSat_any _ _ (by omega) (by omega)).mono ?_); rintro e w' ⟨rfl, rfl⟩) | (go_at_call 24; (refine (Down_any _ _ _ (by omega) (by omega) (by omega) (by omega)).mono ?_); rintro e w' ⟨rfl, rfl⟩) | (go_at_call 23; (refine (Mul_any _ _ _ _ (by omega) (by omega) (by omega) (by omega)).mono ?_); rintro e w' ⟨rfl, rfl⟩) | (go_at_call 25; (refine (Div_any _ _ _ _ (by omega) (by omega) (by omega) (by omega)).mono ?_); rintro e w' ⟨rfl, rfl⟩) | (go_at_call 26; (refine (Shift_any _ _ _ (by omega) (by omega)).mono ?_); rintro e w' ⟨rfl, rfl⟩))
      go_ret
      exact ⟨ret_true (by rw [F0.out, Fx.bySign, if_pos h1]; rfl), hb⟩
    · by_cases h2 : a < 0
      · go_enter Try.func4, Try.ntmps4
        go_wp2_with (first | (go_at_call 15; refine (awake01 _).mono ?_; rintro e w1 ⟨rfl, hb⟩) | (go_at_call 22; (refine (Power_any _ _).mono ?_); rintro e w' ⟨rfl, rfl⟩) | (go_at_call 17; (refine (rSat_any _ _ (by omega) (by omega)).mono ?_); rintro e w' ⟨rfl, rfl⟩) | (go_at_call 24; (refine (Down_any _ _ _ (by omega) (by omega) (by omega) (by omega)).mono ?_); rintro e w' ⟨rfl, rfl⟩) | (go_at_call 23; (refine (Mul_any _ _ _ _ (by omega) (by omega) (by omega) (by omega)).mono ?_); rintro e w' ⟨rfl, rfl⟩) | (go_at_call 25; (refine (Div_any _ _ _ _ (by omega) (by omega) (by omega) (by omega)).mono ?_); rintro e w' ⟨rfl, rfl⟩) | (go_at_call 26; (refine (Shift_any _ _ _ (by omega) (by omega)).mono ?_); rintro e w' ⟨rfl, rfl⟩))
        go_ret
        exact ⟨ret_true (by rw [F0.out, Fx.bySign, if_neg (by omega), if_pos h2]; rfl), hb⟩
      · obtain rfl : a = 0 := by omega
        go_enter Try.func4, Try.ntmps4
        go_wp2_with (first | (go_at_call 15; refine (awake01 _).mono ?_; rintro e w1 ⟨rfl, hb⟩) | (go_at_call 22; (refine (Power_any _ _).mono ?_); rintro e w' ⟨rfl, rfl⟩) | (go_at_call 17; (refine (rSat_any _ _ (by omega) (by omega)).mono ?_); rintro e w' ⟨rfl, rfl⟩) | (go_at_call 24; (refine (Down_any _ _ _ (by omega) (by omega) (by omega) (by omega)).mono ?_); rintro e w' ⟨rfl, rfl⟩) | (go_at_call 23; (refine (Mul_any _ _ _ _ (by omega) (by omega) (by omega) (by omega)).mono ?_); rintro e w' ⟨rfl, rfl⟩) | (go_at_call 25; (refine (Div_any _ _ _ _ (by omega) (by omega) (by omega) (by omega)).mono ?_); rintro e w' ⟨rfl, rfl⟩) | (go_at_call 26; (refine (Shift_any _ _ _ (by omega) (by omega)).mono ?_); rintro e w' ⟨rfl, rfl⟩))
        go_ret
        exact ⟨ret_true (by rw [F0.out]; rfl), hb⟩
  · go_enter Try.func4, Try.ntmps4
    go_wp2_with (first | (go_at_call 15; refine (awake01 _).mono ?_; rintro e w1 ⟨rfl, hb⟩) | (go_at_call 22; (refine (Power_any _ _).mono ?_); rintro e w' ⟨rfl, rfl⟩) | (go_at_call 17; (refine (rSat_any _ _ (by omega) (by omega)).mono ?_); rintro e w' ⟨rfl, rfl⟩) | (go_at_call 24; (refine (Down_any _ _ _ (by omega) (by omega) (by omega) (by omega)).mono ?_); rintro e w' ⟨rfl, rfl⟩) | (go_at_call 23; (refine (Mul_any _ _ _ _ (by omega) (by omega) (by omega) (by omega)).mono ?_); rintro e w' ⟨rfl, rfl⟩) | (go_at_call 25; (refine (Div_any _ _ _ _ (by omega) (by omega) (by omega) (by omega)).mono ?_); rintro e w' ⟨rfl, rfl⟩) | (go_at_call 26; (refine (Shift_any _ _ _ (by omega) (by omega)).mono ?_); rintro e w' ⟨rfl, rfl⟩))
    go_ret
    exact ⟨ret_true (by rw [F1.out ‹_›]; simp), ‹Below _ _ _›⟩

set_option maxHeartbeats 400000 in
theorem walk_FixqShifts (a q : Int) (w : World) (w0 : (Lit.int .i32 a).wf = true) (w1 : (Lit.int .i64 q).wf = true) :
    Calls Try.prog 5 #[.int .i32 a, .int .i64 q] w fun e w' => e = .returned (.bool true) ∧ Below w.heap.size w w' := by
  obtain ⟨a0, a1⟩ := bounds_i32 w0
  clear w0 w1
  have p0 := Fx.pw_pos q
  have p1 := Fx.pw_hi q
  have p2 := Fx.pw_pos (-(max q (-31)))
  have p3 := Fx.pw_hi (-(max q (-31)))
  have m1 := Fx.mul_bd a (Fx.pw q) 2147483648 2147483648 (by omega) (by omega) (by omega) (by omega)
  have d0 := Fx.ediv_bd2 a (Fx.pw (-(max q (-31)))) (-2147483648) 2147483647 p2 a0 a1 (by omega) (by omega)
  by_cases h1 : q < 0
  · have F1 := Lib.hid (show Fx.shift a q = Fx.sat (a / Fx.pw (-(max q (-31)))) from by unfold Fx.shift; rw [if_pos h1, Fx.sat_id _ (by omega) (by omega)])
    by_cases h2 : q ≤ -31
    · rw [show -(max q (-31)) = 31 from by omega] at *
      by_cases h3 : q < -31
      · go_enter Try.func5, Try.ntmps5
        go_wp2_with (first | (go_at_call 15; refine (awake01 _).mono ?_; rintro e w1 ⟨rfl, hb⟩) | (go_at_call 22; (refine (Power_any _ _).mono ?_); rintro e w' ⟨rfl, rfl⟩) | (go_at_call 17; (refine (rSat_any _ _ (by omega) (by omega)).mono ?_); rintro e w' ⟨rfl, rfl⟩) | (go_at_call 24; (refine (Down_any _ _ _ (by omega) (by omega) (by omega) (by omega)).mono ?_); rintro e w' ⟨rfl, rfl⟩) | (go_at_call 23; (refine (Mul_any _ _ _ _ (by omega) (by omega) (by omega) (by omega)).mono ?_); rintro e w' ⟨rfl, rfl⟩) | (go_at_call 25; (refine (Div_any _ _ _ _ (by omega) (by omega) (by omega) (by omega)).mono ?_); rintro e w' ⟨rfl, rfl⟩) | (go_at_call 26; (refine (Shift_any _ _ _ (by omega) (by omega)).mono ?_); rintro e w' ⟨rfl, rfl⟩))
        go_ret
        exact ⟨ret_true (by rw [F1.out]; simp), hb⟩
      · obtain rfl : q = -31 := by omega
        go_enter Try.func5, Try.ntmps5
        go_wp2_with (first | (go_at_call 15; refine (awake01 _).mono ?_; rintro e w1 ⟨rfl, hb⟩) | (go_at_call 22; (refine (Power_any _ _).mono ?_); rintro e w' ⟨rfl, rfl⟩) | (go_at_call 17; (refine (rSat_any _ _ (by omega) (by omega)).mono ?_); rintro e w' ⟨rfl, rfl⟩) | (go_at_call 24; (refine (Down_any _ _ _ (by omega) (by omega) (by omega) (by omega)).mono ?_); rintro e w' ⟨rfl, rfl⟩) | (go_at_call 23; (refine (Mul_any _ _ _ _ (by omega) (by omega) (by omega) (by omega)).mono ?_); rintro e w' ⟨rfl, rfl⟩) | (go_at_call 25; (refine (Div_any _ _ _ _ (by omega) (by omega) (by omega) (by omega)).mono ?_); rintro e w' ⟨rfl, rfl⟩) | (go_at_call 26; (refine (Shift_any _ _ _ (by omega) (by omega)).mono ?_); rintro e w' ⟨rfl, rfl⟩))
        go_ret
        exact ⟨ret_true (by rw [F1.out]; simp), hb⟩
    · rw [show max q (-31) = q from by omega] at *
      go_enter Try.func5, Try.ntmps5
      go_wp2_with (first | (go_at_call 15; refine (awake01 _).mono ?_; rintro e w1 ⟨rfl, hb⟩) | (go_at_call 22; (refine (Power_any _ _).mono ?_); rintro e w' ⟨rfl, rfl⟩) | (go_at_call 17; (refine (rSat_any _ _ (by omega) (by omega)).mono ?_); rintro e w' ⟨rfl, rfl⟩) | (go_at_call 24; (refine (Down_any _ _ _ (by omega) (by omega) (by omega) (by omega)).mono ?_); rintro e w' ⟨rfl, rfl⟩) | (go_at_call 23; (refine (Mul_any _ _ _ _ (by omega) (by omega) (by omega) (by omega)).mono ?_); rintro e w' ⟨rfl, rfl⟩) | (go_at_call 25; (refine (Div_any _ _ _ _ (by omega) (by omega) (by omega) (by omega)).mono ?_); rintro e w' ⟨rfl, rfl⟩) | (go_at_call 26; (refine (Shift_any _ _ _ (by omega) (by omega)).mono ?_); rintro e w' ⟨rfl, rfl⟩))
      go_ret
      exact ⟨ret_true (by rw [F1.out]; simp), hb⟩
  · have F1 := Lib.hid (show Fx.shift a q = Fx.sat (a * Fx.pw q) from by unfold Fx.shift; rw [if_neg h1])
    clear d0 p2 p3
    go_enter Try.func5, Try.ntmps5
    go_wp2_with (first | (go_at_call 15; refine (awake01 _).mono ?_; rintro e w1 ⟨rfl, hb⟩) | (go_at_call 22; (refine (Power_any _ _).mono ?_); rintro e w' ⟨rfl, rfl⟩) | (go_at_call 17; (refine (rSat_any _ _ (by omega) (by omega)).mono ?_); rintro e w' ⟨rfl, rfl⟩) | (go_at_call 24; (refine (Down_any _ _ _ (by omega) (by omega) (by omega) (by omega)).mono ?_); rintro e w' ⟨rfl, rfl⟩) | (go_at_call 23; (refine (Mul_any _ _ _ _ (by omega) (by omega) (by omega) (by omega)).mono ?_); rintro e w' ⟨rfl, rfl⟩) | (go_at_call 25; (refine (Div_any _ _ _ _ (by omega) (by omega) (by omega) (by omega)).mono ?_); rintro e w' ⟨rfl, rfl⟩) | (go_at_call 26; (refine (Shift_any _ _ _ (by omega) (by omega)).mono ?_); rintro e w' ⟨rfl, rfl⟩))
    go_ret
    exact ⟨ret_true (by rw [F1.out]; simp), hb⟩

set_option maxHeartbeats 400000 in
theorem walk_FixqRoots (n : Int) (w : World) (w0 : (Lit.int .i64 n).wf = true) :
    Calls Try.prog 8 #[.int .i64 n] w fun e w' => e = .returned (.bool true) ∧ Below w.heap.size w w' := by
  obtain ⟨n0, n1⟩ := bounds_i64 w0
  clear w0
  have hl := Fx.root_le n
  by_cases h1 : n < 0
  · have F1 := Lib.hid (Fx.root_neg n h1)
    go_enter Try.func8, Try.ntmps8
    go_wp2_with (first | (go_at_call 15; refine (awake01 _).mono ?_; rintro e w1 ⟨rfl, hb⟩) | (go_at_call 29; (refine (Root_any _ _ (by omega)).mono ?_); rintro e w' ⟨rfl, rfl⟩))
    go_ret
    exact ⟨ret_true (by rw [F1.out]; rfl), hb⟩
  · obtain ⟨_, h2, h3⟩ := Fx.root_ok n (by omega)
    obtain ⟨R, hR⟩ : ∃ R, R = Fx.root n := ⟨_, rfl⟩
    have HR := Lib.hid hR
    rw [← hR] at hl h2 h3
    clear hR
    have m1 := Fx.mul_bd R R 2147483648 2147483648 (by omega) (by omega) (by omega) (by omega)
    have m2 := Fx.mul_bd (R + 1) (R + 1) 2147483648 2147483648 (by omega) (by omega) (by omega) (by omega)
    by_cases h4 : R = 2147483647
    · clear h3
      subst h4
      go_enter Try.func8, Try.ntmps8
      go_wp2_with (first | (go_at_call 15; refine (awake01 _).mono ?_; rintro e w1 ⟨rfl, hb⟩) | (go_at_call 29; refine (Root_any _ _ (by omega)).mono ?_; rintro e w' ⟨rfl, rfl⟩; rw [← HR.out]))
      go_ret
      exact ⟨rfl, hb⟩
    · have h5 : n < ((R : Int) + 1) * ((R : Int) + 1) := by omega
      have h6 : ((R : Int) == 2147483647) = false := by rw [beq_eq_false_iff_ne]; omega
      have h7 : ¬ (R : Int) = 2147483647 := by omega
      clear h3 h4
      go_enter Try.func8, Try.ntmps8
      go_wp2_with (first | (go_at_call 15; refine (awake01 _).mono ?_; rintro e w1 ⟨rfl, hb⟩) | (go_at_call 29; refine (Root_any _ _ (by omega)).mono ?_; rintro e w' ⟨rfl, rfl⟩; rw [← HR.out]))
      go_ret
      exact ⟨rfl, hb⟩

set_option maxHeartbeats 400000 in
theorem Add3_new (x y z : Int) (n : Nat) (w : World) (hn : n = w.heap.size) (hx : -2147483648 ≤ x) (hx' : x ≤ 2147483647) (hy : -2147483648 ≤ y) (hy' : y ≤ 2147483647) (hz : -2147483648 ≤ z) (hz' : z ≤ 2147483647) :
    Calls Try.prog 18 #[.slice (some ⟨n, 0, none⟩) 3 3] (w.alloc (.cells #[.int .i32 x, .int .i32 y, .int .i32 z] 21)) fun e w' => e = .returned (.int .i32 (Fx.sat (x + y + z))) ∧ (w.alloc (.cells #[.int .i32 x, .int .i32 y, .int .i32 z] 21)) = w' := by
  subst hn
  refine (Add_any w.heap.size 0 3 3 [x, y, z] _ rfl (by decide) ?_ ?_).mono ?_
  · intro v hv; simp at hv; omega
  · intro j hj
    have hj : j < 3 := hj
    have : j = 0 ∨ j = 1 ∨ j = 2 := by omega
    rcases this with rfl | rfl | rfl <;> go_simp
  · rintro e w' ⟨rfl, rfl⟩
    exact ⟨ret_int (by simp [Fx.sum]), rfl⟩

set_option maxHeartbeats 400000 in
theorem Add2_new (x y : Int) (n : Nat) (w : World) (hn : n = w.heap.size) (hx : -2147483648 ≤ x) (hx' : x ≤ 2147483647) (hy : -2147483648 ≤ y) (hy' : y ≤ 2147483647) :
    Calls Try.prog 18 #[.slice (some ⟨n, 0, none⟩) 2 2] (w.alloc (.cells #[.int .i32 x, .int .i32 y] 21)) fun e w' => e = .returned (.int .i32 (Fx.sat (x + y))) ∧ (w.alloc (.cells #[.int .i32 x, .int .i32 y] 21)) = w' := by
  subst hn
  refine (Add_any w.heap.size 0 2 2 [x, y] _ rfl (by decide) ?_ ?_).mono ?_
  · intro v hv; simp at hv; omega
  · intro j hj
    have hj : j < 2 := hj
    have : j = 0 ∨ j = 1 := by omega
    rcases this with rfl | rfl <;> go_simp
  · rintro e w' ⟨rfl, rfl⟩
    exact ⟨ret_int (by simp [Fx.sum]), rfl⟩

theorem Add3_at (x y z : Int) (n : Nat) (w : World) (h0 : w.cell? ⟨n, 0, none⟩ = some (.int .i32 x)) (h1 : w.cell? ⟨n, 1, none⟩ = some (.int .i32 y)) (h2 : w.cell? ⟨n, 2, none⟩ = some (.int .i32 z)) (hx : -2147483648 ≤ x ∧ x ≤ 2147483647) (hy : -2147483648 ≤ y ∧ y ≤ 2147483647) (hz : -2147483648 ≤ z ∧ z ≤ 2147483647) :
    Calls Try.prog 18 #[.slice (some ⟨n, 0, none⟩) 3 3] w fun e w' => e = .returned (.int .i32 (Fx.sat (x + y + z))) ∧ w = w' := by
  refine (Add_any n 0 3 3 [x, y, z] _ rfl (by decide) ?_ ?_).mono ?_
  · intro v hv; simp at hv; omega
  · intro j hj
    have hj : j < 3 := hj
    have : j = 0 ∨ j = 1 ∨ j = 2 := by omega
    rcases this with rfl | rfl | rfl <;> assumption
  · rintro e w' ⟨rfl, rfl⟩
    exact ⟨ret_int (by simp [Fx.sum]), rfl⟩
theorem Add2_at (x y : Int) (n : Nat) (w : World) (h0 : w.cell? ⟨n, 0, none⟩ = some (.int .i32 x)) (h1 : w.cell? ⟨n, 1, none⟩ = some (.int .i32 y)) (hx : -2147483648 ≤ x ∧ x ≤ 2147483647) (hy : -2147483648 ≤ y ∧ y ≤ 2147483647) :
    Calls Try.prog 18 #[.slice (some ⟨n, 0, none⟩) 2 2] w fun e w' => e = .returned (.int .i32 (Fx.sat (x + y))) ∧ w = w' := by
  refine (Add_any n 0 2 2 [x, y] _ rfl (by decide) ?_ ?_).mono ?_
  · intro v hv; simp at hv; omega
  · intro j hj
    have hj : j < 2 := hj
    have : j = 0 ∨ j = 1 := by omega
    rcases this with rfl | rfl <;> assumption
  · rintro e w' ⟨rfl, rfl⟩
    exact ⟨ret_int (by simp [Fx.sum]), rfl⟩

end Go.Proofs.Ytleodnnkdkgeeaa
