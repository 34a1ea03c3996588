/- VecSizes -/
import Derived.Test.YtleodnnkdkgeeaaLaw02
namespace Go.Proofs.Ytleodnnkdkgeeaa
open Go.RowKit
set_option linter.unusedVariables false


def mx (k : Nat) (x y z : Int) : Int := [x, y, z].take k |>.foldl (fun a b => max a (mag b)) 0
theorem mag_sat (v : Int) (h0 : -2147483648 ≤ v) (h1 : v ≤ 2147483647) : Fx.sat (max v (-v)) = mag v := by
  unfold mag Fx.sat; split <;> (try split) <;> (try split) <;> omega
theorem mag_nonneg (v : Int) (h0 : -2147483648 ≤ v) (h1 : v ≤ 2147483647) : 0 ≤ mag v ∧ mag v ≤ 2147483647 := by
  unfold mag Fx.sat; split <;> (try split) <;> omega
theorem mag_neg (v : Int) (h : v < 0) (h0 : -2147483648 ≤ v) : Fx.sat (-v) = mag v := by
  unfold mag Fx.sat; split <;> (try split) <;> omega
theorem mag_pos (v : Int) (h : 0 ≤ v) (h0 : v ≤ 2147483647) : Fx.sat v = mag v := by
  unfold mag Fx.sat; split <;> (try split) <;> (try split) <;> omega

theorem sq_nn (x : Int) : 0 ≤ x * x := by
  rcases Int.le_total 0 x with h | h
  · exact Int.mul_nonneg h h
  · have := Int.mul_nonneg (show 0 ≤ -x by omega) (show 0 ≤ -x by omega)
    rw [Int.neg_mul_neg] at this
    exact this
theorem squares_nonneg (x y z : Int) : 0 ≤ Fx.sums [x * x, y * y, z * z] := by
  have h1 : 0 ≤ x * x := sq_nn x
  have h2 : 0 ≤ y * y := sq_nn y
  have h3 : 0 ≤ z * z := sq_nn z
  have st : ∀ a b : Int, 0 ≤ a → 0 ≤ b → 0 ≤ Fx.sat64 (a + b) := fun a b ha hb => by unfold Fx.sat64; split <;> (try split) <;> omega
  simp only [Fx.sums, List.foldl]
  exact st _ _ (st _ _ (st _ _ (by decide) h1) h2) h3
theorem mag_zero (v : Int) (h0 : -2147483648 ≤ v) (h1 : v ≤ 2147483647) : mag v = 0 ↔ v = 0 := by
  unfold mag Fx.sat; split <;> (try split) <;> omega
theorem mx_zero (x y z : Int) (x0 : -2147483648 ≤ x) (x1 : x ≤ 2147483647) (y0 : -2147483648 ≤ y) (y1 : y ≤ 2147483647) (z0 : -2147483648 ≤ z) (z1 : z ≤ 2147483647) : (mx 3 x y z == 0) = decide (x = 0 ∧ y = 0 ∧ z = 0) := by
  have a1 := mag_zero x x0 x1
  have a2 := mag_zero y y0 y1
  have a3 := mag_zero z z0 z1
  have b1 := mag_nonneg x x0 x1
  have b2 := mag_nonneg y y0 y1
  have b3 := mag_nonneg z z0 z1
  rw [Bool.eq_iff_iff]
  simp only [mx, List.take, List.foldl, beq_iff_eq, decide_eq_true_eq]
  omega


set_option maxRecDepth 100000 in
set_option maxHeartbeats 2000000 in
theorem walk_VecSizes (ax ay az : Int) (w : World) (wx : (Lit.int .i32 ax).wf = true) (wy : (Lit.int .i32 ay).wf = true) (wz : (Lit.int .i32 az).wf = true) :
    Calls Try.prog 13 #[.agg #[.int .i32 ax, .int .i32 ay, .int .i32 az]] w fun e w' => e = .returned (.bool true) ∧ Below w.heap.size w w' := by
  obtain ⟨axlo, axhi⟩ := bounds_i32 wx
  obtain ⟨aylo, ayhi⟩ := bounds_i32 wy
  obtain ⟨azlo, azhi⟩ := bounds_i32 wz
  clear wx wy wz
  go_enter Try.func13, Try.ntmps13
  go_wp2_with fail
  refine (awake02 _).mono ?_
  rintro e w1 ⟨rfl, hb⟩
  have hT : Three w1 .i32 w.heap.size ax ay az := Three.below (w := w.alloc (.cells #[.int .i32 ax, .int .i32 ay, .int .i32 az] 45)) ⟨by go_simp, by go_simp, by go_simp⟩ hb (by simp)
  have hB : Below w.heap.size w w1 := ((Below.refl _ _).alloc (Nat.le_refl _) _).trans (hb.mono (by simp))
  have hsz := hb.size
  simp at hsz
  clear hb
  have c0 := hT.c0
  have c1 := hT.c1
  have c2 := hT.c2
  go_wp2
  go_loop [3, 5, 6, 12] (fun n _ _ i => ∃ k : Nat, k ≤ 3 ∧ i = .int .i64 k ∧ n = .int .i32 (mx k ax ay az)) (fun _ _ _ i => 3 - (intOf i).toNat)
  case atStart => exact ⟨0, by decide, rfl, rfl⟩
  case round =>
    obtain ⟨k, hk, rfl, rfl⟩ := hrel
    match k, hk with
    | 0, _ =>
      have hs : mx 1 ax ay az = max (mx 0 ax ay az) (mag ax) := by simp [mx]
      have hg := mag_nonneg ax (by omega) (by omega)
      obtain ⟨s, hse⟩ : ∃ s, s = mx 0 ax ay az := ⟨_, rfl⟩
      rw [← hse] at hs
      rw [← hse]
      obtain ⟨g, hge⟩ : ∃ g, g = mag ax := ⟨_, rfl⟩
      rw [← hge] at hs hg
      have HS := Lib.hid hs
      clear hs hse
      rcases (by omega : ax < 0 ∨ 0 ≤ ax) with h | h
      · have hm := mag_neg ax h (by omega)
        rw [← hge] at hm
        clear hge
        rcases (by omega : s < g ∨ g ≤ s) with h2 | h2
        all_goals
          go_wp2_with (go_at_call 17; (refine (rSat_any _ _ (by omega) (by omega)).mono ?_); rintro e w' ⟨rfl, rfl⟩)
          go_round
          case rel => exact ⟨1, by decide, by go_num, by rw [HS.out]; go_num⟩
          case measure => simp [intOf]
      · have hm := mag_pos ax h (by omega)
        rw [← hge] at hm
        clear hge
        rcases (by omega : s < g ∨ g ≤ s) with h2 | h2
        all_goals
          go_wp2_with (go_at_call 17; (refine (rSat_any _ _ (by omega) (by omega)).mono ?_); rintro e w' ⟨rfl, rfl⟩)
          go_round
          case rel => exact ⟨1, by decide, by go_num, by rw [HS.out]; go_num⟩
          case measure => simp [intOf]
    | 1, _ =>
      have hs : mx 2 ax ay az = max (mx 1 ax ay az) (mag ay) := by simp [mx]
      have hg := mag_nonneg ay (by omega) (by omega)
      obtain ⟨s, hse⟩ : ∃ s, s = mx 1 ax ay az := ⟨_, rfl⟩
      rw [← hse] at hs
      rw [← hse]
      obtain ⟨g, hge⟩ : ∃ g, g = mag ay := ⟨_, rfl⟩
      rw [← hge] at hs hg
      have HS := Lib.hid hs
      clear hs hse
      rcases (by omega : ay < 0 ∨ 0 ≤ ay) with h | h
      · have hm := mag_neg ay h (by omega)
        rw [← hge] at hm
        clear hge
        rcases (by omega : s < g ∨ g ≤ s) with h2 | h2
        all_goals
          go_wp2_with (go_at_call 17; (refine (rSat_any _ _ (by omega) (by omega)).mono ?_); rintro e w' ⟨rfl, rfl⟩)
          go_round
          case rel => exact ⟨2, by decide, by go_num, by rw [HS.out]; go_num⟩
          case measure => simp [intOf]
      · have hm := mag_pos ay h (by omega)
        rw [← hge] at hm
        clear hge
        rcases (by omega : s < g ∨ g ≤ s) with h2 | h2
        all_goals
          go_wp2_with (go_at_call 17; (refine (rSat_any _ _ (by omega) (by omega)).mono ?_); rintro e w' ⟨rfl, rfl⟩)
          go_round
          case rel => exact ⟨2, by decide, by go_num, by rw [HS.out]; go_num⟩
          case measure => simp [intOf]
    | 2, _ =>
      have hs : mx 3 ax ay az = max (mx 2 ax ay az) (mag az) := by simp [mx]
      have hg := mag_nonneg az (by omega) (by omega)
      obtain ⟨s, hse⟩ : ∃ s, s = mx 2 ax ay az := ⟨_, rfl⟩
      rw [← hse] at hs
      rw [← hse]
      obtain ⟨g, hge⟩ : ∃ g, g = mag az := ⟨_, rfl⟩
      rw [← hge] at hs hg
      have HS := Lib.hid hs
      clear hs hse
      rcases (by omega : az < 0 ∨ 0 ≤ az) with h | h
      · have hm := mag_neg az h (by omega)
        rw [← hge] at hm
        clear hge
        rcases (by omega : s < g ∨ g ≤ s) with h2 | h2
        all_goals
          go_wp2_with (go_at_call 17; (refine (rSat_any _ _ (by omega) (by omega)).mono ?_); rintro e w' ⟨rfl, rfl⟩)
          go_round
          case rel => exact ⟨3, by decide, by go_num, by rw [HS.out]; go_num⟩
          case measure => simp [intOf]
      · have hm := mag_pos az h (by omega)
        rw [← hge] at hm
        clear hge
        rcases (by omega : s < g ∨ g ≤ s) with h2 | h2
        all_goals
          go_wp2_with (go_at_call 17; (refine (rSat_any _ _ (by omega) (by omega)).mono ?_); rintro e w' ⟨rfl, rfl⟩)
          go_round
          case rel => exact ⟨3, by decide, by go_num, by rw [HS.out]; go_num⟩
          case measure => simp [intOf]
    | 3, _ =>
      have hmx : max (mag ax) (max (mag ay) (mag az)) = mx 3 ax ay az := by
        have g1 := mag_nonneg ax (by omega) (by omega)
        simp only [mx, List.take, List.foldl]
        omega
      go_wp2
      obtain ⟨N, hN⟩ : ∃ N, N = mx 3 ax ay az := ⟨_, rfl⟩
      obtain ⟨D, hD⟩ : ∃ D, D = Fx.sums [ax * ax, ay * ay, az * az] := ⟨_, rfl⟩
      have hD0 : 0 ≤ D := by rw [hD]; exact squares_nonneg ax ay az
      have hDb : D ≤ 9223372036854775807 := by rw [hD]; exact (Fx.sums_bd _).2
      obtain ⟨hR1, hR2, hR3⟩ := Fx.root_ok D hD0
      obtain ⟨R, hR⟩ : ∃ R, R = Fx.root D := ⟨_, rfl⟩
      rw [← hR] at hR1 hR2 hR3
      obtain ⟨zb, hzb⟩ : ∃ zb, zb = decide (ax = 0 ∧ ay = 0 ∧ az = 0) := ⟨_, rfl⟩
      have hz : (N == 0) = zb := by rw [hzb, hN]; exact mx_zero ax ay az axlo axhi aylo ayhi azlo azhi
      have m1 := Fx.mul_bd R R 2147483648 2147483648 (by omega) (by omega) (by omega) (by omega)
      have m2 := Fx.mul_bd (R + 1) (R + 1) 2147483648 2147483648 (by omega) (by omega) (by omega) (by omega)
      rw [← hN] at hmx
      rw [← hN]
      have HM := Lib.hid hmx
      have HD := Lib.hid hD
      have HR := Lib.hid hR
      have HZ := Lib.hid hzb
      clear hmx hN hD hR hzb hD0
      have hR4 : ((R : Int) == 2147483647) = true ∨ ((R : Int) == 2147483647) = false ∧ D < ((R : Int) + 1) * ((R : Int) + 1) := by
        rcases hR3 with h | h
        · left; rw [h]; rfl
        · by_cases h' : R = 2147483647
          · left; rw [h']; rfl
          · right; exact ⟨by rw [beq_eq_false_iff_ne]; omega, h⟩
      clear hR3
      obtain ⟨I, W, hne, hWI, hIW⟩ := Go.Mix.family (fun v => Three v .i32 w.heap.size ax ay az ∧ Below w.heap.size w v) ⟨hT, hB⟩
      have i0 : ∀ i, (W i).cell? ⟨w.heap.size, 0, none⟩ = some (.int .i32 ax) := fun i => (hWI i).1.c0
      have i1 : ∀ i, (W i).cell? ⟨w.heap.size, 1, none⟩ = some (.int .i32 ay) := fun i => (hWI i).1.c1
      have i2 : ∀ i, (W i).cell? ⟨w.heap.size, 2, none⟩ = some (.int .i32 az) := fun i => (hWI i).1.c2
      have HJ := Lib.hid hIW
      clear hWI hIW
      refine Go.Mix.wp_region (fun w' => ∃ i, w' = W i) (by kernel_rfl) (by kernel_rfl) (HJ.out _ ⟨hT.drew, hB.drew⟩) ?_
      simp only []
      (repeat (first | (refine Go.Mix.walk_calm rfl ?_ (fun K hK => ?_); (first | exact Go.Mix.wanted_none rfl | exact Go.Mix.wanted_tt rfl rfl rfl | exact Go.Mix.wanted_ff rfl rfl rfl); go_big_quiet_op; refine hK _ ?_; clear hK K) | (refine Go.Mix.walk_skip ?_ (fun K hK => ?_); (first | exact Go.Mix.wanted_tf rfl rfl rfl | exact Go.Mix.wanted_ft rfl rfl rfl); go_simp; refine hK _ ?_; clear hK K) | (refine Go.Mix.walk_loud rfl ?_ (fun K hK => ?_); (first | exact Go.Mix.wanted_none rfl | exact Go.Mix.wanted_tt rfl rfl rfl | exact Go.Mix.wanted_ff rfl rfl rfl); (first | go_big_op | go_simp); (first | (refine hK _ _ trivial ?_; clear hK K) | (fail; (try dsimp only); refine hK _ _ trivial ?_; clear hK K))) | (refine Go.Mix.walk_step (fun K hK => ?_); go_simp; (try (go_ints; try go_simp)); refine hK _ _ ?_; clear hK K)))
      (refine Go.Mix.walk_loud rfl ?_ (fun K hK => ?_); (first | exact Go.Mix.wanted_none rfl | exact Go.Mix.wanted_tt rfl rfl rfl | exact Go.Mix.wanted_ff rfl rfl rfl); (first | go_big_op | go_simp); go_at_call 37; refine (rDot_any ax ay az ax ay az _ axlo axhi aylo ayhi azlo azhi axlo axhi aylo ayhi azlo azhi).mono ?_)
      rintro e w2 ⟨rfl, hb⟩
      rw [← HD.out]
      have hT := hT.drew.below hb (by simp; omega)
      have hB := hB.drew.trans (hb.mono (by simp; omega))
      have hsz := Nat.le_trans hsz hb.size
      dsimp only
      (refine hK _ _ (HJ.out _ ⟨hT, hB⟩) ?_; clear hK K)
      (repeat (first | (refine Go.Mix.walk_calm rfl ?_ (fun K hK => ?_); (first | exact Go.Mix.wanted_none rfl | exact Go.Mix.wanted_tt rfl rfl rfl | exact Go.Mix.wanted_ff rfl rfl rfl); go_big_quiet_op; refine hK _ ?_; clear hK K) | (refine Go.Mix.walk_skip ?_ (fun K hK => ?_); (first | exact Go.Mix.wanted_tf rfl rfl rfl | exact Go.Mix.wanted_ft rfl rfl rfl); go_simp; refine hK _ ?_; clear hK K) | (refine Go.Mix.walk_loud rfl ?_ (fun K hK => ?_); (first | exact Go.Mix.wanted_none rfl | exact Go.Mix.wanted_tt rfl rfl rfl | exact Go.Mix.wanted_ff rfl rfl rfl); (first | go_big_op | go_simp); (first | (refine hK _ _ trivial ?_; clear hK K) | (fail; (try dsimp only); refine hK _ _ trivial ?_; clear hK K))) | (refine Go.Mix.walk_step (fun K hK => ?_); go_simp; (try (go_ints; try go_simp)); refine hK _ _ ?_; clear hK K)))
      (refine Go.Mix.walk_loud rfl ?_ (fun K hK => ?_); (first | exact Go.Mix.wanted_none rfl | exact Go.Mix.wanted_tt rfl rfl rfl | exact Go.Mix.wanted_ff rfl rfl rfl); (first | go_big_op | go_simp); go_at_call 41; refine (vSize_any ax ay az _ axlo axhi aylo ayhi azlo azhi).mono ?_)
      rintro e w3 ⟨rfl, hb⟩
      rw [← HD.out, ← HR.out]
      have hT := hT.below hb (by omega)
      have hB := hB.trans (hb.mono (by omega))
      have hsz := Nat.le_trans hsz hb.size
      dsimp only
      (refine hK _ _ (HJ.out _ ⟨hT, hB⟩) ?_; clear hK K)
      (repeat (first | (refine Go.Mix.walk_calm rfl ?_ (fun K hK => ?_); (first | exact Go.Mix.wanted_none rfl | exact Go.Mix.wanted_tt rfl rfl rfl | exact Go.Mix.wanted_ff rfl rfl rfl); go_big_quiet_op; refine hK _ ?_; clear hK K) | (refine Go.Mix.walk_skip ?_ (fun K hK => ?_); (first | exact Go.Mix.wanted_tf rfl rfl rfl | exact Go.Mix.wanted_ft rfl rfl rfl); go_simp; refine hK _ ?_; clear hK K) | (refine Go.Mix.walk_loud rfl ?_ (fun K hK => ?_); (first | exact Go.Mix.wanted_none rfl | exact Go.Mix.wanted_tt rfl rfl rfl | exact Go.Mix.wanted_ff rfl rfl rfl); (first | go_big_op | go_simp); (first | (refine hK _ _ trivial ?_; clear hK K) | (fail; (try dsimp only); refine hK _ _ trivial ?_; clear hK K))) | (refine Go.Mix.walk_step (fun K hK => ?_); go_simp; (try (go_ints; try go_simp)); refine hK _ _ ?_; clear hK K)))
      refine Go.Mix.walk_nil ?_
      rcases hR4 with h4 | ⟨h4, h5⟩
      all_goals
        go_wp2
        refine Go.Mix.wp_region (fun w' => ∃ i, w' = W i) (by kernel_rfl) (by kernel_rfl) (HJ.out _ ⟨hT.drew, hB.drew⟩) ?_
        simp only []
        (repeat (first | (refine Go.Mix.walk_calm rfl ?_ (fun K hK => ?_); (first | exact Go.Mix.wanted_none rfl | exact Go.Mix.wanted_tt rfl rfl rfl | exact Go.Mix.wanted_ff rfl rfl rfl); go_big_quiet_op; refine hK _ ?_; clear hK K) | (refine Go.Mix.walk_skip ?_ (fun K hK => ?_); (first | exact Go.Mix.wanted_tf rfl rfl rfl | exact Go.Mix.wanted_ft rfl rfl rfl); go_simp; refine hK _ ?_; clear hK K) | (refine Go.Mix.walk_loud rfl ?_ (fun K hK => ?_); (first | exact Go.Mix.wanted_none rfl | exact Go.Mix.wanted_tt rfl rfl rfl | exact Go.Mix.wanted_ff rfl rfl rfl); (first | go_big_op | go_simp); (first | (refine hK _ _ trivial ?_; clear hK K) | (fail; (try dsimp only); refine hK _ _ trivial ?_; clear hK K))) | (refine Go.Mix.walk_step (fun K hK => ?_); go_simp; (try (go_ints; try go_simp)); refine hK _ _ ?_; clear hK K)))
        (refine Go.Mix.walk_loud rfl ?_ (fun K hK => ?_); (first | exact Go.Mix.wanted_none rfl | exact Go.Mix.wanted_tt rfl rfl rfl | exact Go.Mix.wanted_ff rfl rfl rfl); (first | go_big_op | go_simp); go_at_call 42; refine (vNorm_any ax ay az _ axlo axhi aylo ayhi azlo azhi).mono ?_)
        rintro e w4 ⟨rfl, hb⟩
        rw [HM.out]
        have hT := hT.drew.below hb (by simp; omega)
        have hB := hB.drew.trans (hb.mono (by simp; omega))
        have hsz := Nat.le_trans hsz hb.size
        dsimp only
        (refine hK _ _ (HJ.out _ ⟨hT, hB⟩) ?_; clear hK K)
        (repeat (first | (refine Go.Mix.walk_calm rfl ?_ (fun K hK => ?_); (first | exact Go.Mix.wanted_none rfl | exact Go.Mix.wanted_tt rfl rfl rfl | exact Go.Mix.wanted_ff rfl rfl rfl); go_big_quiet_op; refine hK _ ?_; clear hK K) | (refine Go.Mix.walk_skip ?_ (fun K hK => ?_); (first | exact Go.Mix.wanted_tf rfl rfl rfl | exact Go.Mix.wanted_ft rfl rfl rfl); go_simp; refine hK _ ?_; clear hK K) | (refine Go.Mix.walk_loud rfl ?_ (fun K hK => ?_); (first | exact Go.Mix.wanted_none rfl | exact Go.Mix.wanted_tt rfl rfl rfl | exact Go.Mix.wanted_ff rfl rfl rfl); (first | go_big_op | go_simp); (first | (refine hK _ _ trivial ?_; clear hK K) | (fail; (try dsimp only); refine hK _ _ trivial ?_; clear hK K))) | (refine Go.Mix.walk_step (fun K hK => ?_); go_simp; (try (go_ints; try go_simp)); refine hK _ _ ?_; clear hK K)))
        (refine Go.Mix.walk_loud rfl ?_ (fun K hK => ?_); (first | exact Go.Mix.wanted_none rfl | exact Go.Mix.wanted_tt rfl rfl rfl | exact Go.Mix.wanted_ff rfl rfl rfl); (first | go_big_op | go_simp); go_at_call 42; refine (vNorm_any ax ay az _ axlo axhi aylo ayhi azlo azhi).mono ?_)
        rintro e w5 ⟨rfl, hb⟩
        rw [HM.out]
        have hT := hT.below hb (by omega)
        have hB := hB.trans (hb.mono (by omega))
        have hsz := Nat.le_trans hsz hb.size
        dsimp only
        (refine hK _ _ (HJ.out _ ⟨hT, hB⟩) ?_; clear hK K)
        (repeat (first | (refine Go.Mix.walk_calm rfl ?_ (fun K hK => ?_); (first | exact Go.Mix.wanted_none rfl | exact Go.Mix.wanted_tt rfl rfl rfl | exact Go.Mix.wanted_ff rfl rfl rfl); go_big_quiet_op; refine hK _ ?_; clear hK K) | (refine Go.Mix.walk_skip ?_ (fun K hK => ?_); (first | exact Go.Mix.wanted_tf rfl rfl rfl | exact Go.Mix.wanted_ft rfl rfl rfl); go_simp; refine hK _ ?_; clear hK K) | (refine Go.Mix.walk_loud rfl ?_ (fun K hK => ?_); (first | exact Go.Mix.wanted_none rfl | exact Go.Mix.wanted_tt rfl rfl rfl | exact Go.Mix.wanted_ff rfl rfl rfl); (first | go_big_op | go_simp); (first | (refine hK _ _ trivial ?_; clear hK K) | (fail; (try dsimp only); refine hK _ _ trivial ?_; clear hK K))) | (refine Go.Mix.walk_step (fun K hK => ?_); go_simp; (try (go_ints; try go_simp)); refine hK _ _ ?_; clear hK K)))
        (refine Go.Mix.walk_loud rfl ?_ (fun K hK => ?_); (first | exact Go.Mix.wanted_none rfl | exact Go.Mix.wanted_tt rfl rfl rfl | exact Go.Mix.wanted_ff rfl rfl rfl); (first | go_big_op | go_simp); go_at_call 35; refine (vZero_any ax ay az _).mono ?_)
        rintro e w6 ⟨rfl, hb⟩
        rw [← HZ.out]
        have hT := hT.below hb (by omega)
        have hB := hB.trans (hb.mono (by omega))
        have hsz := Nat.le_trans hsz hb.size
        dsimp only
        (refine hK _ _ (HJ.out _ ⟨hT, hB⟩) ?_; clear hK K)
        (repeat (first | (refine Go.Mix.walk_calm rfl ?_ (fun K hK => ?_); (first | exact Go.Mix.wanted_none rfl | exact Go.Mix.wanted_tt rfl rfl rfl | exact Go.Mix.wanted_ff rfl rfl rfl); go_big_quiet_op; refine hK _ ?_; clear hK K) | (refine Go.Mix.walk_skip ?_ (fun K hK => ?_); (first | exact Go.Mix.wanted_tf rfl rfl rfl | exact Go.Mix.wanted_ft rfl rfl rfl); go_simp; refine hK _ ?_; clear hK K) | (refine Go.Mix.walk_loud rfl ?_ (fun K hK => ?_); (first | exact Go.Mix.wanted_none rfl | exact Go.Mix.wanted_tt rfl rfl rfl | exact Go.Mix.wanted_ff rfl rfl rfl); (first | go_big_op | go_simp); (first | (refine hK _ _ trivial ?_; clear hK K) | (fail; (try dsimp only); refine hK _ _ trivial ?_; clear hK K))) | (refine Go.Mix.walk_step (fun K hK => ?_); go_simp; (try (go_ints; try go_simp)); refine hK _ _ ?_; clear hK K)))
        refine Go.Mix.walk_nil ?_
        go_wp2
        go_ret
        exact ⟨ret_true (by simp), hB⟩
end Go.Proofs.Ytleodnnkdkgeeaa
