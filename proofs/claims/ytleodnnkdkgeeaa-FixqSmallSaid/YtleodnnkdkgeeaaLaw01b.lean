/- FixqSmall -/
import Derived.Test.YtleodnnkdkgeeaaLaw01
import Derived.Test.YtleodnnkdkgeeaaMix
import Derived.Handy
import Derived.BigQuiet
namespace Go.Proofs.Ytleodnnkdkgeeaa
open Go.RowKit
set_option linter.unusedVariables false

theorem Add3_at (x y z : Int) (n : Nat) (w : World) (h0 : w.cell? ⟨n, 0, none⟩ = some (.int .i32 x)) (h1 : w.cell? ⟨n, 1, none⟩ = some (.int .i32 y)) (h2 : w.cell? ⟨n, 2, none⟩ = some (.int .i32 z)) (hx : -2147483648 ≤ x ∧ x ≤ 2147483647) (hy : -2147483648 ≤ y ∧ y ≤ 2147483647) (hz : -2147483648 ≤ z ∧ z ≤ 2147483647) :
    Calls Try.prog 18 #[.slice (some ⟨n, 0, none⟩) 3 3] w fun e w' => e = .returned (.int .i32 (Fx.sat (x + y + z))) ∧ w = w' := by
  refine (Add_any n 0 3 3 [x, y, z] _ rfl (by decide) ?_ ?_).mono ?_
  · intro v hv; simp at hv; omega
  · intro j hj
    have hj : j < 3 := hj
    have : j = 0 ∨ j = 1 ∨ j = 2 := by omega
    rcases this with rfl | rfl | rfl <;> assumption
  · rintro e w' ⟨rfl, rfl⟩
    exact ⟨ret_int (by simp [Fx.sum]), rfl⟩
theorem Add2_at (x y : Int) (n : Nat) (w : World) (h0 : w.cell? ⟨n, 0, none⟩ = some (.int .i32 x)) (h1 : w.cell? ⟨n, 1, none⟩ = some (.int .i32 y)) (hx : -2147483648 ≤ x ∧ x ≤ 2147483647) (hy : -2147483648 ≤ y ∧ y ≤ 2147483647) :
    Calls Try.prog 18 #[.slice (some ⟨n, 0, none⟩) 2 2] w fun e w' => e = .returned (.int .i32 (Fx.sat (x + y))) ∧ w = w' := by
  refine (Add_any n 0 2 2 [x, y] _ rfl (by decide) ?_ ?_).mono ?_
  · intro v hv; simp at hv; omega
  · intro j hj
    have hj : j < 2 := hj
    have : j = 0 ∨ j = 1 := by omega
    rcases this with rfl | rfl <;> assumption
  · rintro e w' ⟨rfl, rfl⟩
    exact ⟨ret_int (by simp [Fx.sum]), rfl⟩


set_option maxRecDepth 100000 in
set_option maxHeartbeats 4000000 in
theorem walk_FixqSmall (a b c : Int) (w : World) (w0 : (Lit.int .i16 a).wf = true) (w1 : (Lit.int .i16 b).wf = true) (w2 : (Lit.int .i16 c).wf = true) :
    Calls Try.prog 10 #[.int .i16 a, .int .i16 b, .int .i16 c] w fun e w' => e = .returned (.bool true) ∧ Below w.heap.size w w' := by
  obtain ⟨a0, a1⟩ := bounds_i16 w0
  obtain ⟨b0, b1⟩ := bounds_i16 w1
  obtain ⟨c0, c1⟩ := bounds_i16 w2
  clear w0 w1 w2
  have m0 := Fx.mul_bd a b 32768 32768 (by omega) (by omega) (by omega) (by omega)
  have e1 : Fx.sat (a + b + c) = a + b + c := Fx.sat_id _ (by omega) (by omega)
  have e2 : Fx.sat (a - b) = a - b := Fx.sat_id _ (by omega) (by omega)
  have e3 : Fx.sat (-a) = -a := Fx.sat_id _ (by omega) (by omega)
  have e4 : Fx.sat (a * b / Fx.pw 0) = a * b := by rw [show Fx.pw 0 = 1 from rfl, Int.ediv_one]; exact Fx.sat_id _ (by omega) (by omega)
  have e5 : Fx.shift a 3 = 8 * a := by rw [Fx.shift_pos a 3 (by omega) (by omega)]; rw [show ((2 : Int) ^ (3 : Int).toNat) = 8 from rfl, Fx.sat_id _ (by omega) (by omega)]; omega
  have e6 : Fx.sat (a + -a) = 0 := by rw [Int.add_right_neg]; rfl
  have e9 : Fx.sat 0 = 0 := rfl
  have e7 : Fx.sat a = a := Fx.sat_id _ (by omega) (by omega)
  have d0 := Fx.tdiv_bd a b 32768 (by omega) (by omega)
  have e8 : b ≠ 0 → Fx.quo a b 0 = a.tdiv b := fun h => by
    rw [Fx.quo_other a b 0 h, show Fx.pw 0 = 1 from rfl, Int.mul_one, Fx.sat_id _ (by omega) (by omega)]
  have C1 : ((a < -a) = False ∧ max a (-a) = a) ∨ ((a < -a) = True ∧ max a (-a) = -a) := by
    by_cases h : a < -a
    · right; exact ⟨eq_true h, by omega⟩
    · left; exact ⟨eq_false h, by omega⟩
  by_cases hb0 : b = 0
  · have hbz : (b == 0) = true := by simp [hb0]
    clear e8 d0 hb0
    rcases C1 with ⟨n1, n2⟩ | ⟨n1, n2⟩
    · go_enter Try.func10, Try.ntmps10
      go_wp2_with (first | (go_at_call 15; refine (awake01 _).mono ?_; rintro e w1 ⟨rfl, hb⟩) | (go_at_call 22; (with_reducible refine (Power_any _ _).mono ?_); rintro e w' ⟨rfl, rfl⟩) | (go_at_call 17; (with_reducible refine (rSat_any _ _ (by omega) (by omega)).mono ?_); rintro e w' ⟨rfl, rfl⟩) | (go_at_call 24; (with_reducible refine (Down_any _ _ _ (by omega) (by omega) (by omega) (by omega)).mono ?_); rintro e w' ⟨rfl, rfl⟩) | (go_at_call 23; (with_reducible refine (Mul_any _ _ _ _ (by omega) (by omega) (by omega) (by omega)).mono ?_); rintro e w' ⟨rfl, rfl⟩) | (go_at_call 25; (with_reducible refine (Div_any _ _ _ _ (by omega) (by omega) (by omega) (by omega)).mono ?_); rintro e w' ⟨rfl, rfl⟩) | (go_at_call 26; (with_reducible refine (Shift_any _ _ _ (by omega) (by omega)).mono ?_); rintro e w' ⟨rfl, rfl⟩) | (go_at_call 18; (with_reducible refine (Add3_at a b c _ _ ?_ ?_ ?_ (by omega) (by omega) (by omega)).mono ?_); (go_simp); (go_simp); (go_simp); rintro e w' ⟨rfl, rfl⟩) | (go_at_call 18; (with_reducible refine (Add2_at a (-a) _ _ ?_ ?_ (by omega) (by omega)).mono ?_); (go_simp); (go_simp); rintro e w' ⟨rfl, rfl⟩) | (go_at_call 19; (with_reducible refine (Sub_any _ _ _ (by omega) (by omega) (by omega) (by omega)).mono ?_); rintro e w' ⟨rfl, rfl⟩) | (go_at_call 20; (with_reducible refine (Neg_any _ _ (by omega) (by omega)).mono ?_); rintro e w' ⟨rfl, rfl⟩) | (go_at_call 21; (with_reducible refine (Abs_any _ _ (by omega) (by omega)).mono ?_); rintro e w' ⟨rfl, rfl⟩) | (go_at_call 16; (with_reducible refine (Sat_any _ _ (by omega) (by omega)).mono ?_); rintro e w' ⟨rfl, rfl⟩))
      simp only [List.append_eq, List.cons_append, List.nil_append]
      (refine Go.Mix.wp_region (fun _ => True) (by kernel_rfl) (by kernel_rfl) trivial ?_; simp only [])
      repeat (first | (refine Go.Mix.walk_calm rfl ?_ (fun K hK => ?_); (first | exact Go.Mix.wanted_none rfl | exact Go.Mix.wanted_tt rfl rfl rfl | exact Go.Mix.wanted_ff rfl rfl rfl); go_big_quiet_op; refine hK _ ?_; clear hK K) | (refine Go.Mix.walk_skip ?_ (fun K hK => ?_); (first | exact Go.Mix.wanted_tf rfl rfl rfl | exact Go.Mix.wanted_ft rfl rfl rfl); go_simp; refine hK _ ?_; clear hK K) | (refine Go.Mix.walk_loud rfl ?_ (fun K hK => ?_); (first | exact Go.Mix.wanted_none rfl | exact Go.Mix.wanted_tt rfl rfl rfl | exact Go.Mix.wanted_ff rfl rfl rfl); (first | go_big_op | go_simp); (first | (refine hK _ _ trivial ?_; clear hK K) | ((first | (go_at_call 22; (with_reducible refine (Power_any _ _).mono ?_); rintro e w' ⟨rfl, rfl⟩) | (go_at_call 17; (with_reducible refine (rSat_any _ _ (by omega) (by omega)).mono ?_); rintro e w' ⟨rfl, rfl⟩) | (go_at_call 24; (with_reducible refine (Down_any _ _ _ (by omega) (by omega) (by omega) (by omega)).mono ?_); rintro e w' ⟨rfl, rfl⟩) | (go_at_call 23; (with_reducible refine (Mul_any _ _ _ _ (by omega) (by omega) (by omega) (by omega)).mono ?_); rintro e w' ⟨rfl, rfl⟩) | (go_at_call 25; (with_reducible refine (Div_any _ _ _ _ (by omega) (by omega) (by omega) (by omega)).mono ?_); rintro e w' ⟨rfl, rfl⟩) | (go_at_call 26; (with_reducible refine (Shift_any _ _ _ (by omega) (by omega)).mono ?_); rintro e w' ⟨rfl, rfl⟩) | (go_at_call 18; (with_reducible refine (Add3_at a b c _ _ ?_ ?_ ?_ (by omega) (by omega) (by omega)).mono ?_); (go_simp); (go_simp); (go_simp); rintro e w' ⟨rfl, rfl⟩) | (go_at_call 18; (with_reducible refine (Add2_at a (-a) _ _ ?_ ?_ (by omega) (by omega)).mono ?_); (go_simp); (go_simp); rintro e w' ⟨rfl, rfl⟩) | (go_at_call 19; (with_reducible refine (Sub_any _ _ _ (by omega) (by omega) (by omega) (by omega)).mono ?_); rintro e w' ⟨rfl, rfl⟩) | (go_at_call 20; (with_reducible refine (Neg_any _ _ (by omega) (by omega)).mono ?_); rintro e w' ⟨rfl, rfl⟩) | (go_at_call 21; (with_reducible refine (Abs_any _ _ (by omega) (by omega)).mono ?_); rintro e w' ⟨rfl, rfl⟩) | (go_at_call 16; (with_reducible refine (Sat_any _ _ (by omega) (by omega)).mono ?_); rintro e w' ⟨rfl, rfl⟩)); (try dsimp only); refine hK _ _ trivial ?_; clear hK K))) | (refine Go.Mix.walk_step (fun K hK => ?_); go_simp; (try (go_ints; try go_simp)); refine hK _ _ ?_; clear hK K))
      refine Go.Mix.walk_nil ?_
      go_wp2
      go_ret
      have hsz := hb.size
      exact ⟨rfl, by go_grown⟩

    · go_enter Try.func10, Try.ntmps10
      go_wp2_with (first | (go_at_call 15; refine (awake01 _).mono ?_; rintro e w1 ⟨rfl, hb⟩) | (go_at_call 22; (with_reducible refine (Power_any _ _).mono ?_); rintro e w' ⟨rfl, rfl⟩) | (go_at_call 17; (with_reducible refine (rSat_any _ _ (by omega) (by omega)).mono ?_); rintro e w' ⟨rfl, rfl⟩) | (go_at_call 24; (with_reducible refine (Down_any _ _ _ (by omega) (by omega) (by omega) (by omega)).mono ?_); rintro e w' ⟨rfl, rfl⟩) | (go_at_call 23; (with_reducible refine (Mul_any _ _ _ _ (by omega) (by omega) (by omega) (by omega)).mono ?_); rintro e w' ⟨rfl, rfl⟩) | (go_at_call 25; (with_reducible refine (Div_any _ _ _ _ (by omega) (by omega) (by omega) (by omega)).mono ?_); rintro e w' ⟨rfl, rfl⟩) | (go_at_call 26; (with_reducible refine (Shift_any _ _ _ (by omega) (by omega)).mono ?_); rintro e w' ⟨rfl, rfl⟩) | (go_at_call 18; (with_reducible refine (Add3_at a b c _ _ ?_ ?_ ?_ (by omega) (by omega) (by omega)).mono ?_); (go_simp); (go_simp); (go_simp); rintro e w' ⟨rfl, rfl⟩) | (go_at_call 18; (with_reducible refine (Add2_at a (-a) _ _ ?_ ?_ (by omega) (by omega)).mono ?_); (go_simp); (go_simp); rintro e w' ⟨rfl, rfl⟩) | (go_at_call 19; (with_reducible refine (Sub_any _ _ _ (by omega) (by omega) (by omega) (by omega)).mono ?_); rintro e w' ⟨rfl, rfl⟩) | (go_at_call 20; (with_reducible refine (Neg_any _ _ (by omega) (by omega)).mono ?_); rintro e w' ⟨rfl, rfl⟩) | (go_at_call 21; (with_reducible refine (Abs_any _ _ (by omega) (by omega)).mono ?_); rintro e w' ⟨rfl, rfl⟩) | (go_at_call 16; (with_reducible refine (Sat_any _ _ (by omega) (by omega)).mono ?_); rintro e w' ⟨rfl, rfl⟩))
      simp only [List.append_eq, List.cons_append, List.nil_append]
      (refine Go.Mix.wp_region (fun _ => True) (by kernel_rfl) (by kernel_rfl) trivial ?_; simp only [])
      repeat (first | (refine Go.Mix.walk_calm rfl ?_ (fun K hK => ?_); (first | exact Go.Mix.wanted_none rfl | exact Go.Mix.wanted_tt rfl rfl rfl | exact Go.Mix.wanted_ff rfl rfl rfl); go_big_quiet_op; refine hK _ ?_; clear hK K) | (refine Go.Mix.walk_skip ?_ (fun K hK => ?_); (first | exact Go.Mix.wanted_tf rfl rfl rfl | exact Go.Mix.wanted_ft rfl rfl rfl); go_simp; refine hK _ ?_; clear hK K) | (refine Go.Mix.walk_loud rfl ?_ (fun K hK => ?_); (first | exact Go.Mix.wanted_none rfl | exact Go.Mix.wanted_tt rfl rfl rfl | exact Go.Mix.wanted_ff rfl rfl rfl); (first | go_big_op | go_simp); (first | (refine hK _ _ trivial ?_; clear hK K) | ((first | (go_at_call 22; (with_reducible refine (Power_any _ _).mono ?_); rintro e w' ⟨rfl, rfl⟩) | (go_at_call 17; (with_reducible refine (rSat_any _ _ (by omega) (by omega)).mono ?_); rintro e w' ⟨rfl, rfl⟩) | (go_at_call 24; (with_reducible refine (Down_any _ _ _ (by omega) (by omega) (by omega) (by omega)).mono ?_); rintro e w' ⟨rfl, rfl⟩) | (go_at_call 23; (with_reducible refine (Mul_any _ _ _ _ (by omega) (by omega) (by omega) (by omega)).mono ?_); rintro e w' ⟨rfl, rfl⟩) | (go_at_call 25; (with_reducible refine (Div_any _ _ _ _ (by omega) (by omega) (by omega) (by omega)).mono ?_); rintro e w' ⟨rfl, rfl⟩) | (go_at_call 26; (with_reducible refine (Shift_any _ _ _ (by omega) (by omega)).mono ?_); rintro e w' ⟨rfl, rfl⟩) | (go_at_call 18; (with_reducible refine (Add3_at a b c _ _ ?_ ?_ ?_ (by omega) (by omega) (by omega)).mono ?_); (go_simp); (go_simp); (go_simp); rintro e w' ⟨rfl, rfl⟩) | (go_at_call 18; (with_reducible refine (Add2_at a (-a) _ _ ?_ ?_ (by omega) (by omega)).mono ?_); (go_simp); (go_simp); rintro e w' ⟨rfl, rfl⟩) | (go_at_call 19; (with_reducible refine (Sub_any _ _ _ (by omega) (by omega) (by omega) (by omega)).mono ?_); rintro e w' ⟨rfl, rfl⟩) | (go_at_call 20; (with_reducible refine (Neg_any _ _ (by omega) (by omega)).mono ?_); rintro e w' ⟨rfl, rfl⟩) | (go_at_call 21; (with_reducible refine (Abs_any _ _ (by omega) (by omega)).mono ?_); rintro e w' ⟨rfl, rfl⟩) | (go_at_call 16; (with_reducible refine (Sat_any _ _ (by omega) (by omega)).mono ?_); rintro e w' ⟨rfl, rfl⟩)); (try dsimp only); refine hK _ _ trivial ?_; clear hK K))) | (refine Go.Mix.walk_step (fun K hK => ?_); go_simp; (try (go_ints; try go_simp)); refine hK _ _ ?_; clear hK K))
      refine Go.Mix.walk_nil ?_
      go_wp2
      go_ret
      have hsz := hb.size
      exact ⟨rfl, by go_grown⟩

  · have hbz : (b == 0) = false := by simp [hb0]
    have e8 := e8 hb0
    have hb1 : (b = 0) = False := eq_false hb0
    clear hb0
    rcases C1 with ⟨n1, n2⟩ | ⟨n1, n2⟩
    · go_enter Try.func10, Try.ntmps10
      go_wp2_with (first | (go_at_call 15; refine (awake01 _).mono ?_; rintro e w1 ⟨rfl, hb⟩) | (go_at_call 22; (with_reducible refine (Power_any _ _).mono ?_); rintro e w' ⟨rfl, rfl⟩) | (go_at_call 17; (with_reducible refine (rSat_any _ _ (by omega) (by omega)).mono ?_); rintro e w' ⟨rfl, rfl⟩) | (go_at_call 24; (with_reducible refine (Down_any _ _ _ (by omega) (by omega) (by omega) (by omega)).mono ?_); rintro e w' ⟨rfl, rfl⟩) | (go_at_call 23; (with_reducible refine (Mul_any _ _ _ _ (by omega) (by omega) (by omega) (by omega)).mono ?_); rintro e w' ⟨rfl, rfl⟩) | (go_at_call 25; (with_reducible refine (Div_any _ _ _ _ (by omega) (by omega) (by omega) (by omega)).mono ?_); rintro e w' ⟨rfl, rfl⟩) | (go_at_call 26; (with_reducible refine (Shift_any _ _ _ (by omega) (by omega)).mono ?_); rintro e w' ⟨rfl, rfl⟩) | (go_at_call 18; (with_reducible refine (Add3_at a b c _ _ ?_ ?_ ?_ (by omega) (by omega) (by omega)).mono ?_); (go_simp); (go_simp); (go_simp); rintro e w' ⟨rfl, rfl⟩) | (go_at_call 18; (with_reducible refine (Add2_at a (-a) _ _ ?_ ?_ (by omega) (by omega)).mono ?_); (go_simp); (go_simp); rintro e w' ⟨rfl, rfl⟩) | (go_at_call 19; (with_reducible refine (Sub_any _ _ _ (by omega) (by omega) (by omega) (by omega)).mono ?_); rintro e w' ⟨rfl, rfl⟩) | (go_at_call 20; (with_reducible refine (Neg_any _ _ (by omega) (by omega)).mono ?_); rintro e w' ⟨rfl, rfl⟩) | (go_at_call 21; (with_reducible refine (Abs_any _ _ (by omega) (by omega)).mono ?_); rintro e w' ⟨rfl, rfl⟩) | (go_at_call 16; (with_reducible refine (Sat_any _ _ (by omega) (by omega)).mono ?_); rintro e w' ⟨rfl, rfl⟩))
      simp only [List.append_eq, List.cons_append, List.nil_append]
      (refine Go.Mix.wp_region (fun _ => True) (by kernel_rfl) (by kernel_rfl) trivial ?_; simp only [])
      repeat (first | (refine Go.Mix.walk_calm rfl ?_ (fun K hK => ?_); (first | exact Go.Mix.wanted_none rfl | exact Go.Mix.wanted_tt rfl rfl rfl | exact Go.Mix.wanted_ff rfl rfl rfl); go_big_quiet_op; refine hK _ ?_; clear hK K) | (refine Go.Mix.walk_skip ?_ (fun K hK => ?_); (first | exact Go.Mix.wanted_tf rfl rfl rfl | exact Go.Mix.wanted_ft rfl rfl rfl); go_simp; refine hK _ ?_; clear hK K) | (refine Go.Mix.walk_loud rfl ?_ (fun K hK => ?_); (first | exact Go.Mix.wanted_none rfl | exact Go.Mix.wanted_tt rfl rfl rfl | exact Go.Mix.wanted_ff rfl rfl rfl); (first | go_big_op | go_simp); (first | (refine hK _ _ trivial ?_; clear hK K) | ((first | (go_at_call 22; (with_reducible refine (Power_any _ _).mono ?_); rintro e w' ⟨rfl, rfl⟩) | (go_at_call 17; (with_reducible refine (rSat_any _ _ (by omega) (by omega)).mono ?_); rintro e w' ⟨rfl, rfl⟩) | (go_at_call 24; (with_reducible refine (Down_any _ _ _ (by omega) (by omega) (by omega) (by omega)).mono ?_); rintro e w' ⟨rfl, rfl⟩) | (go_at_call 23; (with_reducible refine (Mul_any _ _ _ _ (by omega) (by omega) (by omega) (by omega)).mono ?_); rintro e w' ⟨rfl, rfl⟩) | (go_at_call 25; (with_reducible refine (Div_any _ _ _ _ (by omega) (by omega) (by omega) (by omega)).mono ?_); rintro e w' ⟨rfl, rfl⟩) | (go_at_call 26; (with_reducible refine (Shift_any _ _ _ (by omega) (by omega)).mono ?_); rintro e w' ⟨rfl, rfl⟩) | (go_at_call 18; (with_reducible refine (Add3_at a b c _ _ ?_ ?_ ?_ (by omega) (by omega) (by omega)).mono ?_); (go_simp); (go_simp); (go_simp); rintro e w' ⟨rfl, rfl⟩) | (go_at_call 18; (with_reducible refine (Add2_at a (-a) _ _ ?_ ?_ (by omega) (by omega)).mono ?_); (go_simp); (go_simp); rintro e w' ⟨rfl, rfl⟩) | (go_at_call 19; (with_reducible refine (Sub_any _ _ _ (by omega) (by omega) (by omega) (by omega)).mono ?_); rintro e w' ⟨rfl, rfl⟩) | (go_at_call 20; (with_reducible refine (Neg_any _ _ (by omega) (by omega)).mono ?_); rintro e w' ⟨rfl, rfl⟩) | (go_at_call 21; (with_reducible refine (Abs_any _ _ (by omega) (by omega)).mono ?_); rintro e w' ⟨rfl, rfl⟩) | (go_at_call 16; (with_reducible refine (Sat_any _ _ (by omega) (by omega)).mono ?_); rintro e w' ⟨rfl, rfl⟩)); (try dsimp only); refine hK _ _ trivial ?_; clear hK K))) | (refine Go.Mix.walk_step (fun K hK => ?_); go_simp; (try (go_ints; try go_simp)); refine hK _ _ ?_; clear hK K))
      refine Go.Mix.walk_nil ?_
      go_wp2
      go_ret
      have hsz := hb.size
      exact ⟨rfl, by go_grown⟩

    · go_enter Try.func10, Try.ntmps10
      go_wp2_with (first | (go_at_call 15; refine (awake01 _).mono ?_; rintro e w1 ⟨rfl, hb⟩) | (go_at_call 22; (with_reducible refine (Power_any _ _).mono ?_); rintro e w' ⟨rfl, rfl⟩) | (go_at_call 17; (with_reducible refine (rSat_any _ _ (by omega) (by omega)).mono ?_); rintro e w' ⟨rfl, rfl⟩) | (go_at_call 24; (with_reducible refine (Down_any _ _ _ (by omega) (by omega) (by omega) (by omega)).mono ?_); rintro e w' ⟨rfl, rfl⟩) | (go_at_call 23; (with_reducible refine (Mul_any _ _ _ _ (by omega) (by omega) (by omega) (by omega)).mono ?_); rintro e w' ⟨rfl, rfl⟩) | (go_at_call 25; (with_reducible refine (Div_any _ _ _ _ (by omega) (by omega) (by omega) (by omega)).mono ?_); rintro e w' ⟨rfl, rfl⟩) | (go_at_call 26; (with_reducible refine (Shift_any _ _ _ (by omega) (by omega)).mono ?_); rintro e w' ⟨rfl, rfl⟩) | (go_at_call 18; (with_reducible refine (Add3_at a b c _ _ ?_ ?_ ?_ (by omega) (by omega) (by omega)).mono ?_); (go_simp); (go_simp); (go_simp); rintro e w' ⟨rfl, rfl⟩) | (go_at_call 18; (with_reducible refine (Add2_at a (-a) _ _ ?_ ?_ (by omega) (by omega)).mono ?_); (go_simp); (go_simp); rintro e w' ⟨rfl, rfl⟩) | (go_at_call 19; (with_reducible refine (Sub_any _ _ _ (by omega) (by omega) (by omega) (by omega)).mono ?_); rintro e w' ⟨rfl, rfl⟩) | (go_at_call 20; (with_reducible refine (Neg_any _ _ (by omega) (by omega)).mono ?_); rintro e w' ⟨rfl, rfl⟩) | (go_at_call 21; (with_reducible refine (Abs_any _ _ (by omega) (by omega)).mono ?_); rintro e w' ⟨rfl, rfl⟩) | (go_at_call 16; (with_reducible refine (Sat_any _ _ (by omega) (by omega)).mono ?_); rintro e w' ⟨rfl, rfl⟩))
      simp only [List.append_eq, List.cons_append, List.nil_append]
      (refine Go.Mix.wp_region (fun _ => True) (by kernel_rfl) (by kernel_rfl) trivial ?_; simp only [])
      repeat (first | (refine Go.Mix.walk_calm rfl ?_ (fun K hK => ?_); (first | exact Go.Mix.wanted_none rfl | exact Go.Mix.wanted_tt rfl rfl rfl | exact Go.Mix.wanted_ff rfl rfl rfl); go_big_quiet_op; refine hK _ ?_; clear hK K) | (refine Go.Mix.walk_skip ?_ (fun K hK => ?_); (first | exact Go.Mix.wanted_tf rfl rfl rfl | exact Go.Mix.wanted_ft rfl rfl rfl); go_simp; refine hK _ ?_; clear hK K) | (refine Go.Mix.walk_loud rfl ?_ (fun K hK => ?_); (first | exact Go.Mix.wanted_none rfl | exact Go.Mix.wanted_tt rfl rfl rfl | exact Go.Mix.wanted_ff rfl rfl rfl); (first | go_big_op | go_simp); (first | (refine hK _ _ trivial ?_; clear hK K) | ((first | (go_at_call 22; (with_reducible refine (Power_any _ _).mono ?_); rintro e w' ⟨rfl, rfl⟩) | (go_at_call 17; (with_reducible refine (rSat_any _ _ (by omega) (by omega)).mono ?_); rintro e w' ⟨rfl, rfl⟩) | (go_at_call 24; (with_reducible refine (Down_any _ _ _ (by omega) (by omega) (by omega) (by omega)).mono ?_); rintro e w' ⟨rfl, rfl⟩) | (go_at_call 23; (with_reducible refine (Mul_any _ _ _ _ (by omega) (by omega) (by omega) (by omega)).mono ?_); rintro e w' ⟨rfl, rfl⟩) | (go_at_call 25; (with_reducible refine (Div_any _ _ _ _ (by omega) (by omega) (by omega) (by omega)).mono ?_); rintro e w' ⟨rfl, rfl⟩) | (go_at_call 26; (with_reducible refine (Shift_any _ _ _ (by omega) (by omega)).mono ?_); rintro e w' ⟨rfl, rfl⟩) | (go_at_call 18; (with_reducible refine (Add3_at a b c _ _ ?_ ?_ ?_ (by omega) (by omega) (by omega)).mono ?_); (go_simp); (go_simp); (go_simp); rintro e w' ⟨rfl, rfl⟩) | (go_at_call 18; (with_reducible refine (Add2_at a (-a) _ _ ?_ ?_ (by omega) (by omega)).mono ?_); (go_simp); (go_simp); rintro e w' ⟨rfl, rfl⟩) | (go_at_call 19; (with_reducible refine (Sub_any _ _ _ (by omega) (by omega) (by omega) (by omega)).mono ?_); rintro e w' ⟨rfl, rfl⟩) | (go_at_call 20; (with_reducible refine (Neg_any _ _ (by omega) (by omega)).mono ?_); rintro e w' ⟨rfl, rfl⟩) | (go_at_call 21; (with_reducible refine (Abs_any _ _ (by omega) (by omega)).mono ?_); rintro e w' ⟨rfl, rfl⟩) | (go_at_call 16; (with_reducible refine (Sat_any _ _ (by omega) (by omega)).mono ?_); rintro e w' ⟨rfl, rfl⟩)); (try dsimp only); refine hK _ _ trivial ?_; clear hK K))) | (refine Go.Mix.walk_step (fun K hK => ?_); go_simp; (try (go_ints; try go_simp)); refine hK _ _ ?_; clear hK K))
      refine Go.Mix.walk_nil ?_
      go_wp2
      go_ret
      have hsz := hb.size
      exact ⟨rfl, by go_grown⟩

end Go.Proofs.Ytleodnnkdkgeeaa
