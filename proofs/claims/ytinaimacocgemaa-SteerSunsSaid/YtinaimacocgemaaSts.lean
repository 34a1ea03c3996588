/- Layer 23: the document's torque to the sun. -/
import Derived.Test.YtinaimacocgemaaStr
namespace Go.Proofs.Ytinaimacocgemaa
open Go.RowKit Go.Own
set_option linter.unusedVariables false
set_option linter.unusedSimpArgs false
theorem pw10 : Fx.pw 10 = 1024 := by decide
theorem cross_at0 (s : Nat → Int) : crossF (axv 0) s 10 0 = 0 ∧ crossF (axv 0) s 10 1 = Fx.sat (-1000 * s 2 / 1024) ∧ crossF (axv 0) s 10 2 = Fx.sat (1000 * s 1 / 1024) := by
  refine ⟨?_, ?_, ?_⟩
  · show Fx.sat ((0 * s 2 - 0 * s 1) / Fx.pw 10) = _; rw [pw10, Int.zero_mul, Int.zero_mul]; decide
  · show Fx.sat ((0 * s 0 - 1000 * s 2) / Fx.pw 10) = _; rw [pw10, show 0 * s 0 - 1000 * s 2 = -1000 * s 2 by omega]
  · show Fx.sat ((1000 * s 1 - 0 * s 0) / Fx.pw 10) = _; rw [pw10, show 1000 * s 1 - 0 * s 0 = 1000 * s 1 by omega]
theorem cross_at1 (s : Nat → Int) : crossF (axv 1) s 10 1 = 0 ∧ crossF (axv 1) s 10 2 = Fx.sat (-1000 * s 0 / 1024) ∧ crossF (axv 1) s 10 0 = Fx.sat (1000 * s 2 / 1024) := by
  refine ⟨?_, ?_, ?_⟩
  · show Fx.sat ((0 * s 0 - 0 * s 2) / Fx.pw 10) = _; rw [pw10, Int.zero_mul, Int.zero_mul]; decide
  · show Fx.sat ((0 * s 1 - 1000 * s 0) / Fx.pw 10) = _; rw [pw10, show 0 * s 1 - 1000 * s 0 = -1000 * s 0 by omega]
  · show Fx.sat ((1000 * s 2 - 0 * s 1) / Fx.pw 10) = _; rw [pw10, show 1000 * s 2 - 0 * s 1 = 1000 * s 2 by omega]
theorem cross_at2 (s : Nat → Int) : crossF (axv 2) s 10 2 = 0 ∧ crossF (axv 2) s 10 0 = Fx.sat (-1000 * s 1 / 1024) ∧ crossF (axv 2) s 10 1 = Fx.sat (1000 * s 0 / 1024) := by
  refine ⟨?_, ?_, ?_⟩
  · show Fx.sat ((0 * s 1 - 0 * s 0) / Fx.pw 10) = _; rw [pw10, Int.zero_mul, Int.zero_mul]; decide
  · show Fx.sat ((0 * s 2 - 1000 * s 1) / Fx.pw 10) = _; rw [pw10, show 0 * s 2 - 1000 * s 1 = -1000 * s 1 by omega]
  · show Fx.sat ((1000 * s 0 - 0 * s 2) / Fx.pw 10) = _; rw [pw10, show 1000 * s 0 - 0 * s 2 = 1000 * s 0 by omega]
theorem cross_none {i : Int} (h : i < 0 ∨ 3 ≤ i) (s : Nat → Int) (q : Int) (k : Nat) : crossF (axv i) s q k = 0 := by
  unfold crossF crs
  rw [axv_other h _ (Nat.mod_lt _ (by decide)), axv_other h _ (Nat.mod_lt _ (by decide)), Int.zero_mul, Int.zero_mul, Int.sub_self, Int.zero_ediv]
  decide
def sunT (T r : Nat → Int) (kp kd q m : Int) : Nat → Int := clampF (subF (scaleF T kp q) (scaleF r kd q)) m
set_option maxRecDepth 100000 in
set_option maxHeartbeats 4000000 in
theorem rSun_any (s r : Nat → Int) (i kp kd q m : Int) (w : World) (hs : In3 s) (hr : In3 r) (hp0 : -2147483648 ≤ kp) (hp1 : kp ≤ 2147483647) (hd0 : -2147483648 ≤ kd) (hd1 : kd ≤ 2147483647) (hm0 : -2147483648 ≤ m) (hm1 : m ≤ 2147483647) :
    Calls Try.prog 62 #[.agg #[.int .i32 (s 0), .int .i32 (s 1), .int .i32 (s 2)], .agg #[.int .i32 (r 0), .int .i32 (r 1), .int .i32 (r 2)], .int .i64 i, .int .i32 kp, .int .i32 kd, .int .i64 q, .int .i32 m] w fun e w' => e = .returned (.agg #[.int .i32 (sunF s r i kp kd q m 0), .int .i32 (sunF s r i kp kd q m 1), .int .i32 (sunF s r i kp kd q m 2)]) ∧ Below w.heap.size w w' := by
  have hz := zero_vcS
  have hz2 : ∀ w, (zeroValue 123).run Try.prog w = .ok (.agg #[.int .i64 0, .int .i64 0, .int .i64 0]) w := fun w => by kernel_rfl
  have HV := Lib.hid (Bxs.four w #[.int .i32 (s 0), .int .i32 (s 1), .int .i32 (s 2)] #[.int .i32 (r 0), .int .i32 (r 1), .int .i32 (r 2)] #[.int .i32 0, .int .i32 0, .int .i32 0] #[.int .i64 0, .int .i64 0, .int .i64 0] 23 23 23 123)
  have HS := Lib.hid hs
  have HR := Lib.hid hr
  obtain ⟨T, hT⟩ : ∃ T, T = crossF (axv i) s 10 := ⟨_, rfl⟩
  have HT := Lib.hid hT
  clear hs hr hT
  have hsz : w.heap.size + 4 = ((((w.alloc (.cells #[.int .i32 (s 0), .int .i32 (s 1), .int .i32 (s 2)] 23)).alloc (.cells #[.int .i32 (r 0), .int .i32 (r 1), .int .i32 (r 2)] 23)).alloc (.cells #[.int .i32 0, .int .i32 0, .int .i32 0] 23)).alloc (.cells #[.int .i64 0, .int .i64 0, .int .i64 0] 123)).heap.size := by simp
  go_enter Try.func62, Try.ntmps62
  go_upto_region 2 with fail
  obtain ⟨w1, hw1⟩ : ∃ w1, w1 = (((w.alloc (.cells #[.int .i32 (s 0), .int .i32 (s 1), .int .i32 (s 2)] 23)).alloc (.cells #[.int .i32 (r 0), .int .i32 (r 1), .int .i32 (r 2)] 23)).alloc (.cells #[.int .i32 0, .int .i32 0, .int .i32 0] 23)).alloc (.cells #[.int .i64 0, .int .i64 0, .int .i64 0] 123) := ⟨_, rfl⟩
  rw [← hw1] at HV hsz ⊢
  clear hw1
  obtain ⟨c, hc⟩ : ∃ c : Bool, c = decide (0 ≤ i ∧ i < 3) := ⟨_, rfl⟩
  have HC := Lib.hid hc
  clear hc
  go_cut [27] (fun s27 wx => s27 = .bool c ∧ wx = w1)
  case first =>
    rcases (by omega : (0 ≤ i ∧ i < 3) ∨ i < 0 ∨ (0 ≤ i ∧ ¬ i < 3)) with ⟨h0, h1⟩ | h0 | ⟨h0, h1⟩
    · have e : c = true := by rw [HC.out]; exact decide_eq_true ⟨h0, h1⟩
      subst e
      go_wp2
      go_meet
      case rel => exact ⟨rfl, rfl⟩
    · have e : c = false := by rw [HC.out]; exact decide_eq_false (by omega)
      subst e
      go_wp2
      go_meet
      case rel => exact ⟨rfl, rfl⟩
    · have e : c = false := by rw [HC.out]; exact decide_eq_false (by omega)
      subst e
      go_wp2
      go_meet
      case rel => exact ⟨rfl, rfl⟩
  case rest =>
  obtain ⟨rfl, rfl⟩ := hcut
  go_upto_if 27 with fail
  go_cut [16, 17] (fun s16 s17 wx => Bxs w wx [(#[.int .i32 (s 0), .int .i32 (s 1), .int .i32 (s 2)], 23), (#[.int .i32 (r 0), .int .i32 (r 1), .int .i32 (r 2)], 23), (#[.int .i32 0, .int .i32 0, .int .i32 0], 23), (#[.int .i64 (T 0), .int .i64 (T 1), .int .i64 (T 2)], 123)] ∧ wx.heap.size = w.heap.size + 4)
  case first =>
    rcases (by omega : i = 0 ∨ i = 1 ∨ i = 2 ∨ (i < 0 ∨ 3 ≤ i)) with rfl | rfl | rfl | h
    · have e : c = true := by rw [HC.out]; decide
      subst e
      have b0 : wc.heap[w.heap.size]? = _ := HV.out.at_ 0 _ _ rfl
      have b3 : wc.heap[w.heap.size + 1 + 1 + 1]? = _ := HV.out.at_ 3 _ _ rfl
      have cj := cell_of_row _ _ 1 _ _ _ b0
      have ck := cell_of_row _ _ 2 _ _ _ b0
      have dj := cell_of_row _ _ 1 _ _ _ b3
      have dk := cell_of_row _ _ 2 _ _ _ b3
      have fj := frozen_of_row _ _ 1 _ _ b3
      have fk := frozen_of_row _ _ 2 _ _ b3
      have hj := HS.out 1 (by decide)
      have hk := HS.out 2 (by decide)
      have x0 := Fx.sat_lo (-1000 * s 2 / 1024)
      have x1 := Fx.sat_hi (-1000 * s 2 / 1024)
      have y0 := Fx.sat_lo (1000 * s 1 / 1024)
      have y1 := Fx.sat_hi (1000 * s 1 / 1024)
      clear b0 b3
      go_wp2_with (first | (go_at_call 104; (refine (Down_any _ _ _ (by omega) (by omega) (by omega) (by omega)).mono ?_); rintro e w' ⟨rfl, rfl⟩) | (go_at_call 101; (refine (rSat_any _ _ (by omega) (by omega)).mono ?_); rintro e w' ⟨rfl, rfl⟩))
      go_meet
      case rel =>
        have hv := (HV.out.set 3 rfl 1 (.int .i64 (Fx.sat (-1000 * s 2 / 1024)))).set 3 rfl 2 (.int .i64 (Fx.sat (1000 * s 1 / 1024)))
        obtain ⟨e0, e1, e2⟩ := cross_at0 s
        rw [HT.out, e0, e1, e2]
        exact ⟨hv, by simp; omega⟩
    · have e : c = true := by rw [HC.out]; decide
      subst e
      have b0 : wc.heap[w.heap.size]? = _ := HV.out.at_ 0 _ _ rfl
      have b3 : wc.heap[w.heap.size + 1 + 1 + 1]? = _ := HV.out.at_ 3 _ _ rfl
      have cj := cell_of_row _ _ 2 _ _ _ b0
      have ck := cell_of_row _ _ 0 _ _ _ b0
      have dj := cell_of_row _ _ 2 _ _ _ b3
      have dk := cell_of_row _ _ 0 _ _ _ b3
      have fj := frozen_of_row _ _ 2 _ _ b3
      have fk := frozen_of_row _ _ 0 _ _ b3
      have hj := HS.out 2 (by decide)
      have hk := HS.out 0 (by decide)
      have x0 := Fx.sat_lo (-1000 * s 0 / 1024)
      have x1 := Fx.sat_hi (-1000 * s 0 / 1024)
      have y0 := Fx.sat_lo (1000 * s 2 / 1024)
      have y1 := Fx.sat_hi (1000 * s 2 / 1024)
      clear b0 b3
      go_wp2_with (first | (go_at_call 104; (refine (Down_any _ _ _ (by omega) (by omega) (by omega) (by omega)).mono ?_); rintro e w' ⟨rfl, rfl⟩) | (go_at_call 101; (refine (rSat_any _ _ (by omega) (by omega)).mono ?_); rintro e w' ⟨rfl, rfl⟩))
      go_meet
      case rel =>
        have hv := (HV.out.set 3 rfl 2 (.int .i64 (Fx.sat (-1000 * s 0 / 1024)))).set 3 rfl 0 (.int .i64 (Fx.sat (1000 * s 2 / 1024)))
        obtain ⟨e0, e1, e2⟩ := cross_at1 s
        rw [HT.out, e0, e1, e2]
        exact ⟨hv, by simp; omega⟩
    · have e : c = true := by rw [HC.out]; decide
      subst e
      have b0 : wc.heap[w.heap.size]? = _ := HV.out.at_ 0 _ _ rfl
      have b3 : wc.heap[w.heap.size + 1 + 1 + 1]? = _ := HV.out.at_ 3 _ _ rfl
      have cj := cell_of_row _ _ 0 _ _ _ b0
      have ck := cell_of_row _ _ 1 _ _ _ b0
      have dj := cell_of_row _ _ 0 _ _ _ b3
      have dk := cell_of_row _ _ 1 _ _ _ b3
      have fj := frozen_of_row _ _ 0 _ _ b3
      have fk := frozen_of_row _ _ 1 _ _ b3
      have hj := HS.out 0 (by decide)
      have hk := HS.out 1 (by decide)
      have x0 := Fx.sat_lo (-1000 * s 1 / 1024)
      have x1 := Fx.sat_hi (-1000 * s 1 / 1024)
      have y0 := Fx.sat_lo (1000 * s 0 / 1024)
      have y1 := Fx.sat_hi (1000 * s 0 / 1024)
      clear b0 b3
      go_wp2_with (first | (go_at_call 104; (refine (Down_any _ _ _ (by omega) (by omega) (by omega) (by omega)).mono ?_); rintro e w' ⟨rfl, rfl⟩) | (go_at_call 101; (refine (rSat_any _ _ (by omega) (by omega)).mono ?_); rintro e w' ⟨rfl, rfl⟩))
      go_meet
      case rel =>
        have hv := (HV.out.set 3 rfl 0 (.int .i64 (Fx.sat (-1000 * s 1 / 1024)))).set 3 rfl 1 (.int .i64 (Fx.sat (1000 * s 0 / 1024)))
        obtain ⟨e0, e1, e2⟩ := cross_at2 s
        rw [HT.out, e0, e1, e2]
        exact ⟨hv, by simp; omega⟩
    · have e : c = false := by rw [HC.out]; exact decide_eq_false (by omega)
      subst e
      go_wp2
      go_meet
      case rel =>
        rw [HT.out, cross_none h, cross_none h, cross_none h]
        exact ⟨HV.out, hsz.symm⟩
  case rest =>
  clear HV hsz
  go_upto_region 7 with fail
  have HV := Lib.hid (show Bxs w (wc.alloc (.cells #[.int .i32 0, .int .i32 0, .int .i32 0] 23)) [(#[.int .i32 (s 0), .int .i32 (s 1), .int .i32 (s 2)], 23), (#[.int .i32 (r 0), .int .i32 (r 1), .int .i32 (r 2)], 23), (#[.int .i32 0, .int .i32 0, .int .i32 0], 23), (#[.int .i64 (T 0), .int .i64 (T 1), .int .i64 (T 2)], 123), (#[.int .i32 0, .int .i32 0, .int .i32 0], 23)] from hcut.1.add hcut.2 #[.int .i32 0, .int .i32 0, .int .i32 0] 23)
  obtain ⟨w1, hw1⟩ : ∃ w1, w1 = wc.alloc (.cells #[.int .i32 0, .int .i32 0, .int .i32 0] 23) := ⟨_, rfl⟩
  rw [← hw1] at HV ⊢
  clear hw1 hcut
  have hT3 : In3 T := by rw [HT.out]; exact in3_cross _ _ _
  have HT3 := Lib.hid hT3
  clear hT3
  go_wp2_with fail
  refine wp_loop_rounds 4 ?_
  have b1 : w1.heap[w.heap.size + 1]? = _ := HV.out.at_ 1 _ _ rfl
  have b3 : w1.heap[w.heap.size + 1 + 1 + 1]? = _ := HV.out.at_ 3 _ _ rfl
  have c1 := cell_of_row _ _ 0 _ _ _ b1
  have c3 := cell_of_row _ _ 0 _ _ _ b3
  have br := HR.out 0 (by decide)
  have bt := HT3.out 0 (by decide)
  have x0 := Fx.sat_lo (T 0 * kp / Fx.pw q)
  have x1 := Fx.sat_hi (T 0 * kp / Fx.pw q)
  have y0 := Fx.sat_lo (r 0 * kd / Fx.pw q)
  have y1 := Fx.sat_hi (r 0 * kd / Fx.pw q)
  clear b1 b3
  rw [rounds_succ]
  go_upto_region 10 with fail
  go_quiet ((go_at_call 103; exact quiet_eq (times_any _ _ _ _ (by omega) (by omega) (by omega) (by omega))))
  clear x0 x1 y0 y1 br bt c1 c3
  obtain ⟨A, hA⟩ : ∃ A, A = Fx.sat (T 0 * kp / Fx.pw q) := ⟨_, rfl⟩
  obtain ⟨B, hB⟩ : ∃ B, B = Fx.sat (r 0 * kd / Fx.pw q) := ⟨_, rfl⟩
  have A0 : -2147483648 ≤ A := by rw [hA]; exact Fx.sat_lo _
  have A1 : A ≤ 2147483647 := by rw [hA]; exact Fx.sat_hi _
  have B0 : -2147483648 ≤ B := by rw [hB]; exact Fx.sat_lo _
  have B1 : B ≤ 2147483647 := by rw [hB]; exact Fx.sat_hi _
  obtain ⟨N, hN⟩ : ∃ N, N = Fx.sat (A - B) := ⟨_, rfl⟩
  have G0 : -2147483648 ≤ N := by rw [hN]; exact Fx.sat_lo _
  have G1 : N ≤ 2147483647 := by rw [hN]; exact Fx.sat_hi _
  rw [← hA, ← hB]
  have HA := Lib.hid hA
  have HB := Lib.hid hB
  have HN := Lib.hid hN
  clear hA hB hN
  have hV := HV.out.step (bel_drewV w1 nq)
  obtain ⟨w2, hw2⟩ : ∃ w2, w2 = w1.drewN nq := ⟨_, rfl⟩
  rw [← hw2] at hV ⊢
  clear hw2 HV
  have b4 : w2.heap[w.heap.size + 4]? = _ := hV.at_ 4 _ _ rfl
  have c4 := cell_of_row _ _ 0 _ _ _ b4
  have f4 := frozen_of_row _ _ 0 _ _ b4
  have HV2 := Lib.hid hV
  clear b4 hV
  go_wp2_with fail
  go_at_call 101
  refine (rSat_any _ _ (by omega) (by omega)).mono ?_
  rintro e w' ⟨rfl, rfl⟩
  rw [← HN.out]
  go_wp2_with fail
  go_at_call 102
  refine (rclamp_any _ _ _ G0 G1 hm0 hm1).mono ?_
  rintro e w' ⟨rfl, rfl⟩
  go_upto_region 12 with fail
  clear c4 f4 A0 A1 B0 B1 G0 G1
  have hv := HV2.out.set 4 rfl 0 (.int .i32 (Fx.clamp N (-(max m 0)) (max m 0)))
  obtain ⟨w1, hw1⟩ : ∃ w1, w1 = w2.setCell ⟨w.heap.size + 4, 0, none⟩ (.int .i32 (Fx.clamp N (-(max m 0)) (max m 0))) := ⟨_, rfl⟩
  rw [← hw1] at hv ⊢
  rw [HN.out, HA.out, HB.out] at hv
  have HV := Lib.hid (show Bxs w w1 [(#[.int .i32 (s 0), .int .i32 (s 1), .int .i32 (s 2)], 23), (#[.int .i32 (r 0), .int .i32 (r 1), .int .i32 (r 2)], 23), (#[.int .i32 0, .int .i32 0, .int .i32 0], 23), (#[.int .i64 (T 0), .int .i64 (T 1), .int .i64 (T 2)], 123), (#[.int .i32 (sunT T r kp kd q m 0), .int .i32 0, .int .i32 0], 23)] from hv)
  clear hw1 HV2 HA HB HN hv
  go_wp2_with fail
  have b1 : w1.heap[w.heap.size + 1]? = _ := HV.out.at_ 1 _ _ rfl
  have b3 : w1.heap[w.heap.size + 1 + 1 + 1]? = _ := HV.out.at_ 3 _ _ rfl
  have c1 := cell_of_row _ _ 1 _ _ _ b1
  have c3 := cell_of_row _ _ 1 _ _ _ b3
  have br := HR.out 1 (by decide)
  have bt := HT3.out 1 (by decide)
  have x0 := Fx.sat_lo (T 1 * kp / Fx.pw q)
  have x1 := Fx.sat_hi (T 1 * kp / Fx.pw q)
  have y0 := Fx.sat_lo (r 1 * kd / Fx.pw q)
  have y1 := Fx.sat_hi (r 1 * kd / Fx.pw q)
  clear b1 b3
  rw [rounds_succ]
  go_upto_region 10 with fail
  go_quiet ((go_at_call 103; exact quiet_eq (times_any _ _ _ _ (by omega) (by omega) (by omega) (by omega))))
  clear x0 x1 y0 y1 br bt c1 c3
  obtain ⟨A, hA⟩ : ∃ A, A = Fx.sat (T 1 * kp / Fx.pw q) := ⟨_, rfl⟩
  obtain ⟨B, hB⟩ : ∃ B, B = Fx.sat (r 1 * kd / Fx.pw q) := ⟨_, rfl⟩
  have A0 : -2147483648 ≤ A := by rw [hA]; exact Fx.sat_lo _
  have A1 : A ≤ 2147483647 := by rw [hA]; exact Fx.sat_hi _
  have B0 : -2147483648 ≤ B := by rw [hB]; exact Fx.sat_lo _
  have B1 : B ≤ 2147483647 := by rw [hB]; exact Fx.sat_hi _
  obtain ⟨N, hN⟩ : ∃ N, N = Fx.sat (A - B) := ⟨_, rfl⟩
  have G0 : -2147483648 ≤ N := by rw [hN]; exact Fx.sat_lo _
  have G1 : N ≤ 2147483647 := by rw [hN]; exact Fx.sat_hi _
  rw [← hA, ← hB]
  have HA := Lib.hid hA
  have HB := Lib.hid hB
  have HN := Lib.hid hN
  clear hA hB hN
  have hV := HV.out.step (bel_drewV w1 nq)
  obtain ⟨w2, hw2⟩ : ∃ w2, w2 = w1.drewN nq := ⟨_, rfl⟩
  rw [← hw2] at hV ⊢
  clear hw2 HV
  have b4 : w2.heap[w.heap.size + 4]? = _ := hV.at_ 4 _ _ rfl
  have c4 := cell_of_row _ _ 1 _ _ _ b4
  have f4 := frozen_of_row _ _ 1 _ _ b4
  have HV2 := Lib.hid hV
  clear b4 hV
  go_wp2_with fail
  go_at_call 101
  refine (rSat_any _ _ (by omega) (by omega)).mono ?_
  rintro e w' ⟨rfl, rfl⟩
  rw [← HN.out]
  go_wp2_with fail
  go_at_call 102
  refine (rclamp_any _ _ _ G0 G1 hm0 hm1).mono ?_
  rintro e w' ⟨rfl, rfl⟩
  go_upto_region 12 with fail
  clear c4 f4 A0 A1 B0 B1 G0 G1
  have hv := HV2.out.set 4 rfl 1 (.int .i32 (Fx.clamp N (-(max m 0)) (max m 0)))
  obtain ⟨w1, hw1⟩ : ∃ w1, w1 = w2.setCell ⟨w.heap.size + 4, 1, none⟩ (.int .i32 (Fx.clamp N (-(max m 0)) (max m 0))) := ⟨_, rfl⟩
  rw [← hw1] at hv ⊢
  rw [HN.out, HA.out, HB.out] at hv
  have HV := Lib.hid (show Bxs w w1 [(#[.int .i32 (s 0), .int .i32 (s 1), .int .i32 (s 2)], 23), (#[.int .i32 (r 0), .int .i32 (r 1), .int .i32 (r 2)], 23), (#[.int .i32 0, .int .i32 0, .int .i32 0], 23), (#[.int .i64 (T 0), .int .i64 (T 1), .int .i64 (T 2)], 123), (#[.int .i32 (sunT T r kp kd q m 0), .int .i32 (sunT T r kp kd q m 1), .int .i32 0], 23)] from hv)
  clear hw1 HV2 HA HB HN hv
  go_wp2_with fail
  have b1 : w1.heap[w.heap.size + 1]? = _ := HV.out.at_ 1 _ _ rfl
  have b3 : w1.heap[w.heap.size + 1 + 1 + 1]? = _ := HV.out.at_ 3 _ _ rfl
  have c1 := cell_of_row _ _ 2 _ _ _ b1
  have c3 := cell_of_row _ _ 2 _ _ _ b3
  have br := HR.out 2 (by decide)
  have bt := HT3.out 2 (by decide)
  have x0 := Fx.sat_lo (T 2 * kp / Fx.pw q)
  have x1 := Fx.sat_hi (T 2 * kp / Fx.pw q)
  have y0 := Fx.sat_lo (r 2 * kd / Fx.pw q)
  have y1 := Fx.sat_hi (r 2 * kd / Fx.pw q)
  clear b1 b3
  rw [rounds_succ]
  go_upto_region 10 with fail
  go_quiet ((go_at_call 103; exact quiet_eq (times_any _ _ _ _ (by omega) (by omega) (by omega) (by omega))))
  clear x0 x1 y0 y1 br bt c1 c3
  obtain ⟨A, hA⟩ : ∃ A, A = Fx.sat (T 2 * kp / Fx.pw q) := ⟨_, rfl⟩
  obtain ⟨B, hB⟩ : ∃ B, B = Fx.sat (r 2 * kd / Fx.pw q) := ⟨_, rfl⟩
  have A0 : -2147483648 ≤ A := by rw [hA]; exact Fx.sat_lo _
  have A1 : A ≤ 2147483647 := by rw [hA]; exact Fx.sat_hi _
  have B0 : -2147483648 ≤ B := by rw [hB]; exact Fx.sat_lo _
  have B1 : B ≤ 2147483647 := by rw [hB]; exact Fx.sat_hi _
  obtain ⟨N, hN⟩ : ∃ N, N = Fx.sat (A - B) := ⟨_, rfl⟩
  have G0 : -2147483648 ≤ N := by rw [hN]; exact Fx.sat_lo _
  have G1 : N ≤ 2147483647 := by rw [hN]; exact Fx.sat_hi _
  rw [← hA, ← hB]
  have HA := Lib.hid hA
  have HB := Lib.hid hB
  have HN := Lib.hid hN
  clear hA hB hN
  have hV := HV.out.step (bel_drewV w1 nq)
  obtain ⟨w2, hw2⟩ : ∃ w2, w2 = w1.drewN nq := ⟨_, rfl⟩
  rw [← hw2] at hV ⊢
  clear hw2 HV
  have b4 : w2.heap[w.heap.size + 4]? = _ := hV.at_ 4 _ _ rfl
  have c4 := cell_of_row _ _ 2 _ _ _ b4
  have f4 := frozen_of_row _ _ 2 _ _ b4
  have HV2 := Lib.hid hV
  clear b4 hV
  go_wp2_with fail
  go_at_call 101
  refine (rSat_any _ _ (by omega) (by omega)).mono ?_
  rintro e w' ⟨rfl, rfl⟩
  rw [← HN.out]
  go_wp2_with fail
  go_at_call 102
  refine (rclamp_any _ _ _ G0 G1 hm0 hm1).mono ?_
  rintro e w' ⟨rfl, rfl⟩
  go_upto_region 12 with fail
  clear c4 f4 A0 A1 B0 B1 G0 G1
  have hv := HV2.out.set 4 rfl 2 (.int .i32 (Fx.clamp N (-(max m 0)) (max m 0)))
  obtain ⟨w1, hw1⟩ : ∃ w1, w1 = w2.setCell ⟨w.heap.size + 4, 2, none⟩ (.int .i32 (Fx.clamp N (-(max m 0)) (max m 0))) := ⟨_, rfl⟩
  rw [← hw1] at hv ⊢
  rw [HN.out, HA.out, HB.out] at hv
  have HV := Lib.hid (show Bxs w w1 [(#[.int .i32 (s 0), .int .i32 (s 1), .int .i32 (s 2)], 23), (#[.int .i32 (r 0), .int .i32 (r 1), .int .i32 (r 2)], 23), (#[.int .i32 0, .int .i32 0, .int .i32 0], 23), (#[.int .i64 (T 0), .int .i64 (T 1), .int .i64 (T 2)], 123), (#[.int .i32 (sunT T r kp kd q m 0), .int .i32 (sunT T r kp kd q m 1), .int .i32 (sunT T r kp kd q m 2)], 23)] from hv)
  clear hw1 HV2 HA HB HN hv
  go_wp2_with fail
  rw [rounds_succ]
  have b2 : w1.heap[w.heap.size + 1 + 1]? = _ := HV.out.at_ 2 _ _ rfl
  have b3 : w1.heap[w.heap.size + 4]? = _ := HV.out.at_ 4 _ _ rfl
  have hV := HV.out.put 2 rfl #[.int .i32 (sunT T r kp kd q m 0), .int .i32 (sunT T r kp kd q m 1), .int .i32 (sunT T r kp kd q m 2)]
  have b4 : (w1.setRow (w.heap.size + 1 + 1) #[.int .i32 (sunT T r kp kd q m 0), .int .i32 (sunT T r kp kd q m 1), .int .i32 (sunT T r kp kd q m 2)]).heap[w.heap.size + 1 + 1]? = _ := hV.at_ 2 _ _ rfl
  have HB4 := Lib.hid b4
  have HV2 := Lib.hid hV
  clear hV HV b4
  go_wp2_with (first | ((with_reducible show wpList _ _ _ (_ :: _) _ _); refine wpList_load_row rfl 23 _ rfl _ rfl _ _ _ _ b3 Try.underlying23 rfl (by exact size_vc) ?_; (try go_simp)) | ((with_reducible show wpList _ _ _ (_ :: _) _ _); refine wpList_store_row rfl 23 _ _ rfl _ _ rfl rfl _ _ b2 (by exact size_vc) (by rfl) (by simp [Value.oneCell']) ?_))
  refine bodyPost_ret (results_cell_row rfl _ _ _ _ _ _ _ rfl HB4.out Try.underlying23 rfl (by exact size_vc)) rfl ?_
  exact ⟨by rw [HT.out]; rfl, HV2.out.be⟩
end Go.Proofs.Ytinaimacocgemaa
