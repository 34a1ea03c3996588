/- SteerSuns. -/
import Derived.Test.YtinaimacocgemaaLaw23
import Derived.Test.YtinaimacocgemaaFrame
namespace Go.Proofs.Ytinaimacocgemaa
open Go.RowKit Go.Own
set_option linter.unusedVariables false
set_option linter.unusedSimpArgs false
/-- Where the law stands: the sun, the rate, the torque, the axis. -/
structure SuSt (w wr : World) (g h : Nat) (a l f x : Nat → Int) : Prop where
  be : Below w.heap.size w wr
  b0 : wr.heap[w.heap.size]? = some (.cells #[.int .i32 (a 0), .int .i32 (a 1), .int .i32 (a 2)] 23 (0, 0))
  b1 : wr.heap[w.heap.size + 1]? = some (.cells #[.int .i32 (l 0), .int .i32 (l 1), .int .i32 (l 2)] 23 (0, 0))
  b2 : wr.heap[g]? = some (.cells #[.int .i32 (f 0), .int .i32 (f 1), .int .i32 (f 2)] 23 (0, 0))
  b3 : wr.heap[h]? = some (.cells #[.int .i32 (x 0), .int .i32 (x 1), .int .i32 (x 2)] 23 (0, 0))
theorem SuSt.step {w wr w' : World} {g h : Nat} {a l f x : Nat → Int} (H : SuSt w wr g h a l f x) (hb : Below wr.heap.size wr w') : SuSt w w' g h a l f x :=
  ⟨H.be.trans (hb.mono H.be.size), box_below H.b0 hb (box_lt H.b0), box_below H.b1 hb (box_lt H.b1), box_below H.b2 hb (box_lt H.b2), box_below H.b3 hb (box_lt H.b3)⟩
theorem sun_self (i kp kd q m : Int) (k : Nat) (hk : k < 3) : sunF (axv i) (fun _ => 0) i kp kd q m k = 0 := by
  have hc : crossF (axv i) (axv i) 10 k = 0 := by
    unfold crossF crs
    rw [Int.mul_comm (axv i ((k + 2) % 3)), Int.sub_self, Int.zero_ediv]
    decide
  show Fx.clamp (Fx.sat (Fx.sat (crossF (axv i) (axv i) 10 k * kp / Fx.pw q) - Fx.sat (0 * kd / Fx.pw q))) (-(max m 0)) (max m 0) = 0
  rw [hc, Int.zero_mul, Int.zero_mul, Int.zero_ediv, Int.sub_self]
  unfold Fx.clamp
  rw [show Fx.sat 0 = 0 from by decide]
  split <;> (try split) <;> omega
theorem sun_none (s : Nat → Int) (kp kd q m : Int) (k : Nat) : sunF s (fun _ => 0) 3 kp kd q m k = 0 := by
  show Fx.clamp (Fx.sat (Fx.sat (crossF (axv 3) s 10 k * kp / Fx.pw q) - Fx.sat (0 * kd / Fx.pw q))) (-(max m 0)) (max m 0) = 0
  rw [cross_none (.inr (by decide)), Int.zero_mul, Int.zero_mul, Int.zero_ediv, Int.sub_self]
  unfold Fx.clamp
  rw [show Fx.sat 0 = 0 from by decide]
  split <;> (try split) <;> omega
theorem in3_zero : In3 (fun _ => 0) := fun _ _ => by dsimp only; decide
theorem Sun_self (i kp kd q m : Int) (w : World) (hp0 : -2147483648 ≤ kp) (hp1 : kp ≤ 2147483647) (hd0 : -2147483648 ≤ kd) (hd1 : kd ≤ 2147483647) (hm0 : -2147483648 ≤ m) (hm1 : m ≤ 2147483647) :
    Calls Try.prog 60 #[.agg #[.int .i32 (axv i 0), .int .i32 (axv i 1), .int .i32 (axv i 2)], .agg #[.int .i32 0, .int .i32 0, .int .i32 0], .int .i64 i, .int .i32 kp, .int .i32 kd, .int .i64 q, .int .i32 m] w fun e w' => e = .returned (.agg #[.int .i32 0, .int .i32 0, .int .i32 0]) ∧ Below w.heap.size w w' := by
  have h := Sun_any (axv i) (fun _ => 0) i kp kd q m w (in3_ax i) in3_zero hp0 hp1 hd0 hd1 hm0 hm1
  rw [sun_self i kp kd q m 0 (by decide), sun_self i kp kd q m 1 (by decide), sun_self i kp kd q m 2 (by decide)] at h
  exact h
theorem Sun_selfX (x : Nat → Int) (i kp kd q m : Int) (w : World) (hx : x = axv i) (hp0 : -2147483648 ≤ kp) (hp1 : kp ≤ 2147483647) (hd0 : -2147483648 ≤ kd) (hd1 : kd ≤ 2147483647) (hm0 : -2147483648 ≤ m) (hm1 : m ≤ 2147483647) :
    Calls Try.prog 60 #[.agg #[.int .i32 (x 0), .int .i32 (x 1), .int .i32 (x 2)], .agg #[.int .i32 0, .int .i32 0, .int .i32 0], .int .i64 i, .int .i32 kp, .int .i32 kd, .int .i64 q, .int .i32 m] w fun e w' => e = .returned (.agg #[.int .i32 0, .int .i32 0, .int .i32 0]) ∧ Below w.heap.size w w' := by
  subst hx
  exact Sun_self i kp kd q m w hp0 hp1 hd0 hd1 hm0 hm1
theorem Sun_none (s : Nat → Int) (kp kd q m : Int) (w : World) (hs : In3 s) (hp0 : -2147483648 ≤ kp) (hp1 : kp ≤ 2147483647) (hd0 : -2147483648 ≤ kd) (hd1 : kd ≤ 2147483647) (hm0 : -2147483648 ≤ m) (hm1 : m ≤ 2147483647) :
    Calls Try.prog 60 #[.agg #[.int .i32 (s 0), .int .i32 (s 1), .int .i32 (s 2)], .agg #[.int .i32 0, .int .i32 0, .int .i32 0], .int .i64 3, .int .i32 kp, .int .i32 kd, .int .i64 q, .int .i32 m] w fun e w' => e = .returned (.agg #[.int .i32 0, .int .i32 0, .int .i32 0]) ∧ Below w.heap.size w w' := by
  have h := Sun_any s (fun _ => 0) 3 kp kd q m w hs in3_zero hp0 hp1 hd0 hd1 hm0 hm1
  rw [sun_none s kp kd q m 0, sun_none s kp kd q m 1, sun_none s kp kd q m 2] at h
  exact h
theorem axv_yes {i : Int} {k : Nat} (h : i = k) : axv i k = 1000 := by unfold axv; rw [if_pos h]
theorem axv_no {i : Int} {k : Nat} (h : ¬ i = k) : axv i k = 0 := by unfold axv; rw [if_neg h]
set_option maxRecDepth 100000 in
set_option maxHeartbeats 8000000 in
theorem walk_SteerSuns (x0 y0 z0 x1 y1 z1 a2 a3 a4 a5 a6 : Int) (w : World) (wx0 : (Lit.int .i32 x0).wf = true) (wy0 : (Lit.int .i32 y0).wf = true) (wz0 : (Lit.int .i32 z0).wf = true) (wx1 : (Lit.int .i32 x1).wf = true) (wy1 : (Lit.int .i32 y1).wf = true) (wz1 : (Lit.int .i32 z1).wf = true) (w2 : (Lit.int .i64 a2).wf = true) (w3 : (Lit.int .i32 a3).wf = true) (w4 : (Lit.int .i32 a4).wf = true) (w5 : (Lit.int .i64 a5).wf = true) (w6 : (Lit.int .i32 a6).wf = true) :
    Calls Try.prog 11 #[.agg #[.int .i32 x0, .int .i32 y0, .int .i32 z0], .agg #[.int .i32 x1, .int .i32 y1, .int .i32 z1], .int .i64 a2, .int .i32 a3, .int .i32 a4, .int .i64 a5, .int .i32 a6] w fun e w' => e = .returned (.bool true) ∧ Below w.heap.size w w' := by
  obtain ⟨a, ha, rfl, rfl, rfl⟩ := vec_of wx0 wy0 wz0
  obtain ⟨l, hl, rfl, rfl, rfl⟩ := vec_of wx1 wy1 wz1
  obtain ⟨plo, phi⟩ := bounds_i32 w3
  obtain ⟨dlo, dhi⟩ := bounds_i32 w4
  obtain ⟨mlo, mhi⟩ := bounds_i32 w6
  clear wx0 wy0 wz0 wx1 wy1 wz1 w2 w3 w4 w5 w6
  have hz := zero_vcS
  have h0 := heap_alloc2_old w (.cells #[.int .i32 (a 0), .int .i32 (a 1), .int .i32 (a 2)] 23) (.cells #[.int .i32 (l 0), .int .i32 (l 1), .int .i32 (l 2)] 23)
  have h1 := heap_alloc2_new w (.cells #[.int .i32 (a 0), .int .i32 (a 1), .int .i32 (a 2)] 23) (.cells #[.int .i32 (l 0), .int .i32 (l 1), .int .i32 (l 2)] 23)
  have hb0 : Below w.heap.size w ((w.alloc (.cells #[.int .i32 (a 0), .int .i32 (a 1), .int .i32 (a 2)] 23)).alloc (.cells #[.int .i32 (l 0), .int .i32 (l 1), .int .i32 (l 2)] 23)) := by repeat' (first | (with_reducible exact Below.refl _ _) | (with_reducible assumption) | (with_reducible refine Below.setCell ?_ ?_ _) | (with_reducible refine Below.alloc ?_ ?_ _) | (with_reducible refine Below.drew ?_) | (with_reducible refine Below.drawsN ?_ _) | go_size)
  obtain ⟨f, hf⟩ : ∃ f, f = sunF a l a2 a3 a4 a5 a6 := ⟨_, rfl⟩
  obtain ⟨x, hx⟩ : ∃ x, x = axv a2 := ⟨_, rfl⟩
  have HF := Lib.hid hf
  have HX := Lib.hid hx
  have HA := Lib.hid ha
  have HL := Lib.hid hl
  clear hf hx ha hl
  go_enter Try.func11, Try.ntmps11
  go_upto_region 1 with fail
  obtain ⟨w1, hw1⟩ : ∃ w1, w1 = (w.alloc (.cells #[.int .i32 (a 0), .int .i32 (a 1), .int .i32 (a 2)] 23)).alloc (.cells #[.int .i32 (l 0), .int .i32 (l 1), .int .i32 (l 2)] 23) := ⟨_, rfl⟩
  rw [← hw1] at h0 h1 hb0 ⊢
  clear hw1
  go_wp2_with fail
  go_at_call 57
  refine (awake23 _).mono ?_
  rintro e w2 ⟨rfl, hb⟩
  have h0 := box_below h0 hb (box_lt h0)
  have h1 := box_below h1 hb (box_lt h1)
  have HB2 := Lib.hid (hb0.trans (hb.mono hb0.size))
  clear hb hb0
  go_upto_region 3 with fail
  go_wp2_with (first | ((with_reducible show wpList _ _ _ (_ :: _) _ _); refine wpList_load_row rfl 23 _ rfl _ rfl _ _ _ _ h0 Try.underlying23 rfl (by exact size_vc) ?_; (try go_simp)) | ((with_reducible show wpList _ _ _ (_ :: _) _ _); refine wpList_load_row rfl 23 _ rfl _ rfl _ _ _ _ h1 Try.underlying23 rfl (by exact size_vc) ?_; (try go_simp)))
  refine (Sun_any a l a2 a3 a4 a5 a6 _ HA.out HL.out plo phi dlo dhi mlo mhi).mono ?_
  rintro e w3 ⟨rfl, hb⟩
  rw [← HF.out]
  have h0 := box_below h0 hb (box_lt h0)
  have h1 := box_below h1 hb (box_lt h1)
  have hB3 := HB2.out.trans (hb.mono HB2.out.size)
  clear hb HB2
  go_upto_region 4 with ((with_reducible show wpList _ _ _ (_ :: _) _ _); refine wpList_store_row rfl 23 _ _ rfl _ _ rfl rfl _ _ (heap_alloc_new _ _) (by exact size_vc) (by rfl) (by simp [Value.oneCell']) ?_; rw [World.setRow_alloc_new])
  have h2 := heap_alloc_new w3 (.cells #[.int .i32 (f 0), .int .i32 (f 1), .int .i32 (f 2)] 23)
  have h0 := (Below.heap_alloc _ (.cells #[.int .i32 (f 0), .int .i32 (f 1), .int .i32 (f 2)] 23) _ (box_lt h0)).trans h0
  have h1 := (Below.heap_alloc _ (.cells #[.int .i32 (f 0), .int .i32 (f 1), .int .i32 (f 2)] 23) _ (box_lt h1)).trans h1
  have hB4 : Below w.heap.size w (w3.alloc (.cells #[.int .i32 (f 0), .int .i32 (f 1), .int .i32 (f 2)] 23)) := hB3.alloc hB3.size _
  obtain ⟨g, hg⟩ : ∃ g, g = w3.heap.size := ⟨_, rfl⟩
  obtain ⟨w4, hw4⟩ : ∃ w4, w4 = w3.alloc (.cells #[.int .i32 (f 0), .int .i32 (f 1), .int .i32 (f 2)] 23) := ⟨_, rfl⟩
  rw [← hw4] at h0 h1 h2 hB4 ⊢
  rw [← hg] at h2 ⊢
  have HB4 := Lib.hid hB4
  clear hw4 hg hB3 hB4
  go_wp2_with fail
  go_at_call 61
  refine (Axis_any a2 _).mono ?_
  rintro e w5 ⟨rfl, hb⟩
  rw [← HX.out]
  have h0 := box_below h0 hb (box_lt h0)
  have h1 := box_below h1 hb (box_lt h1)
  have h2 := box_below h2 hb (box_lt h2)
  have hB5 := HB4.out.trans (hb.mono HB4.out.size)
  clear hb HB4
  go_upto_region 5 with ((with_reducible show wpList _ _ _ (_ :: _) _ _); refine wpList_store_row rfl 23 _ _ rfl _ _ rfl rfl _ _ (heap_alloc_new _ _) (by exact size_vc) (by rfl) (by simp [Value.oneCell']) ?_; rw [World.setRow_alloc_new])
  have h3 := heap_alloc_new w5 (.cells #[.int .i32 (x 0), .int .i32 (x 1), .int .i32 (x 2)] 23)
  have HS := Lib.hid (show SuSt w (w5.alloc (.cells #[.int .i32 (x 0), .int .i32 (x 1), .int .i32 (x 2)] 23)) g w5.heap.size a l f x from ⟨hB5.alloc hB5.size _, (Below.heap_alloc _ _ _ (box_lt h0)).trans h0, (Below.heap_alloc _ _ _ (box_lt h1)).trans h1, (Below.heap_alloc _ _ _ (box_lt h2)).trans h2, h3⟩)
  obtain ⟨h, hh⟩ : ∃ g, g = w5.heap.size := ⟨_, rfl⟩
  obtain ⟨w5', hw5⟩ : ∃ w4, w4 = w5.alloc (.cells #[.int .i32 (x 0), .int .i32 (x 1), .int .i32 (x 2)] 23) := ⟨_, rfl⟩
  rw [← hw5, ← hh] at HS ⊢
  clear hw5 hh h0 h1 h2 h3 hB5 w5
  obtain ⟨w5, hw5⟩ : ∃ w3, w3 = w5' := ⟨_, rfl⟩
  rw [← hw5] at HS ⊢
  clear hw5
  have b3 := HS.out.b3
  go_wp2_with ((with_reducible show wpList _ _ _ (_ :: _) _ _); refine wpList_load_row rfl 23 _ rfl _ rfl _ _ _ _ b3 Try.underlying23 rfl (by exact size_vc) ?_; (try go_simp))
  clear b3
  refine wp_loop_rounds 4 ?_
  rw [rounds_succ]
  go_upto_region 8 with fail
  go_cut [49] (fun s49 wx => s49 = .bool false ∧ wx = w5)
  case first =>
    by_cases hi : a2 = ((0 : Nat) : Int)
    · have hx : x 0 = 1000 := by rw [HX.out]; exact axv_yes hi
      have hb : ((0 : Int) == a2) = true := by rw [hi]; decide
      have hx1 : (x 0 == 1000) = true := by rw [hx]; rfl
      have hx2 : (x 0 != 0) = true := by rw [hx]; rfl
      have hx3 : (x 0 != 1000) = false := by rw [hx]; rfl
      clear hi hx
      go_wp2
      go_meet
      case rel => exact ⟨rfl, rfl⟩
    · have hx : x 0 = 0 := by rw [HX.out]; exact axv_no hi
      have hb : ((0 : Int) == a2) = false := by rw [beq_eq_false_iff_ne]; intro h; exact hi h.symm
      have hx1 : (x 0 == 1000) = false := by rw [hx]; rfl
      have hx2 : (x 0 != 0) = false := by rw [hx]; rfl
      clear hi hx
      go_wp2
      go_meet
      case rel => exact ⟨rfl, rfl⟩
  case rest =>
  obtain ⟨rfl, hwc⟩ := hcut
  have hwc2 := hwc.symm
  clear hwc
  subst hwc2
  go_wp2_with fail
  rw [rounds_succ]
  go_upto_region 8 with fail
  go_cut [49] (fun s49 wx => s49 = .bool false ∧ wx = w5)
  case first =>
    by_cases hi : a2 = ((1 : Nat) : Int)
    · have hx : x 1 = 1000 := by rw [HX.out]; exact axv_yes hi
      have hb : ((1 : Int) == a2) = true := by rw [hi]; decide
      have hx1 : (x 1 == 1000) = true := by rw [hx]; rfl
      have hx2 : (x 1 != 0) = true := by rw [hx]; rfl
      have hx3 : (x 1 != 1000) = false := by rw [hx]; rfl
      clear hi hx
      go_wp2
      go_meet
      case rel => exact ⟨rfl, rfl⟩
    · have hx : x 1 = 0 := by rw [HX.out]; exact axv_no hi
      have hb : ((1 : Int) == a2) = false := by rw [beq_eq_false_iff_ne]; intro h; exact hi h.symm
      have hx1 : (x 1 == 1000) = false := by rw [hx]; rfl
      have hx2 : (x 1 != 0) = false := by rw [hx]; rfl
      clear hi hx
      go_wp2
      go_meet
      case rel => exact ⟨rfl, rfl⟩
  case rest =>
  obtain ⟨rfl, hwc⟩ := hcut
  have hwc2 := hwc.symm
  clear hwc
  subst hwc2
  go_wp2_with fail
  rw [rounds_succ]
  go_upto_region 8 with fail
  go_cut [49] (fun s49 wx => s49 = .bool false ∧ wx = w5)
  case first =>
    by_cases hi : a2 = ((2 : Nat) : Int)
    · have hx : x 2 = 1000 := by rw [HX.out]; exact axv_yes hi
      have hb : ((2 : Int) == a2) = true := by rw [hi]; decide
      have hx1 : (x 2 == 1000) = true := by rw [hx]; rfl
      have hx2 : (x 2 != 0) = true := by rw [hx]; rfl
      have hx3 : (x 2 != 1000) = false := by rw [hx]; rfl
      clear hi hx
      go_wp2
      go_meet
      case rel => exact ⟨rfl, rfl⟩
    · have hx : x 2 = 0 := by rw [HX.out]; exact axv_no hi
      have hb : ((2 : Int) == a2) = false := by rw [beq_eq_false_iff_ne]; intro h; exact hi h.symm
      have hx1 : (x 2 == 1000) = false := by rw [hx]; rfl
      have hx2 : (x 2 != 0) = false := by rw [hx]; rfl
      clear hi hx
      go_wp2
      go_meet
      case rel => exact ⟨rfl, rfl⟩
  case rest =>
  obtain ⟨rfl, hwc⟩ := hcut
  have hwc2 := hwc.symm
  clear hwc
  subst hwc2
  go_wp2_with fail
  rw [rounds_succ]
  go_upto_region 11 with fail
  have b0 := HS.out.b0
  have b1 := HS.out.b1
  have b2 := HS.out.b2
  have b3 := HS.out.b3
  have l0 := box_lt b0
  have l1 := box_lt b1
  have l2 := box_lt b2
  have l3 := box_lt b3
  obtain ⟨I, W, hne, hWI, hIW⟩ := Go.Mix.family (fun v => Below w5.heap.size w5 v) (Below.refl _ _)
  have HJ := Lib.hid hIW
  have HW := Lib.hid hWI
  clear hWI hIW
  refine Go.Flo.wp_region (fun w' => ∃ i, w' = W i) 34 [Go.Flo.Spec.is (.agg #[.int .i32 (f 0), .int .i32 (f 1), .int .i32 (f 2)]), Go.Flo.Spec.is (.agg #[.int .i32 0, .int .i32 0, .int .i32 0]), Go.Flo.Spec.is (.agg #[.int .i32 0, .int .i32 0, .int .i32 0])] (by kernel_rfl) (by kernel_rfl) (by decide) (by rintro _ w' ⟨i, rfl⟩ hb; exact HJ.out _ ((HW.out i).trans (hb.mono (HW.out i).size))) (HJ.out _ (Below.refl _ _).drew) ?_
  simp only [Go.Flo.pair, Go.Mix.calm, List.take, List.drop, if_true, Bool.false_eq_true, if_false, Nat.reduceAdd, Nat.reduceSub]
  (refine Go.Flo.fw_calm rfl ?_ (fun K hK => ?_); (first | exact Go.Mix.wanted_none rfl | exact Go.Mix.wanted_tt rfl rfl rfl | exact Go.Mix.wanted_ff rfl rfl rfl); refine Go.Flo.quiet_load_row 23 _ rfl _ rfl _ #[.int .i32 (f 0), .int .i32 (f 1), .int .i32 (f 2)] _ (by rintro _ ⟨i, rfl⟩; exact ((HW.out i).block _ l2).trans b2) Try.underlying23 rfl size_vc ?_; go_simp; refine hK _ ?_; clear hK K)
  (refine Go.Flo.fw_calm rfl ?_ (fun K hK => ?_); (first | exact Go.Mix.wanted_none rfl | exact Go.Mix.wanted_tt rfl rfl rfl | exact Go.Mix.wanted_ff rfl rfl rfl); refine Go.Flo.quiet_load_row 23 _ rfl _ rfl _ #[.int .i32 (a 0), .int .i32 (a 1), .int .i32 (a 2)] _ (by rintro _ ⟨i, rfl⟩; exact ((HW.out i).block _ l0).trans b0) Try.underlying23 rfl size_vc ?_; go_simp; refine hK _ ?_; clear hK K)
  (refine Go.Flo.fw_calm rfl ?_ (fun K hK => ?_); (first | exact Go.Mix.wanted_none rfl | exact Go.Mix.wanted_tt rfl rfl rfl | exact Go.Mix.wanted_ff rfl rfl rfl); refine Go.Flo.quiet_load_row 23 _ rfl _ rfl _ #[.int .i32 (l 0), .int .i32 (l 1), .int .i32 (l 2)] _ (by rintro _ ⟨i, rfl⟩; exact ((HW.out i).block _ l1).trans b1) Try.underlying23 rfl size_vc ?_; go_simp; refine hK _ ?_; clear hK K)
  (first | (refine Go.Flo.fw_calm rfl ?_ (fun K hK => ?_); (first | exact Go.Mix.wanted_none rfl | exact Go.Mix.wanted_tt rfl rfl rfl | exact Go.Mix.wanted_ff rfl rfl rfl); go_big_quiet_op; refine hK _ ?_; clear hK K) | (refine Go.Flo.fw_skip ?_ (fun K hK => ?_); (first | exact Go.Mix.wanted_tf rfl rfl rfl | exact Go.Mix.wanted_ft rfl rfl rfl); go_simp; refine hK _ ?_; clear hK K) | (refine Go.Flo.fw_any rfl ?_ (fun K hK => ?_); (first | exact Go.Mix.wanted_none rfl | exact Go.Mix.wanted_tt rfl rfl rfl | exact Go.Mix.wanted_ff rfl rfl rfl); go_simp; (try (go_ints; try go_simp)); refine hK _ ?_; clear hK K))
  (first | (refine Go.Flo.fw_calm rfl ?_ (fun K hK => ?_); (first | exact Go.Mix.wanted_none rfl | exact Go.Mix.wanted_tt rfl rfl rfl | exact Go.Mix.wanted_ff rfl rfl rfl); go_big_quiet_op; refine hK _ ?_; clear hK K) | (refine Go.Flo.fw_skip ?_ (fun K hK => ?_); (first | exact Go.Mix.wanted_tf rfl rfl rfl | exact Go.Mix.wanted_ft rfl rfl rfl); go_simp; refine hK _ ?_; clear hK K) | (refine Go.Flo.fw_any rfl ?_ (fun K hK => ?_); (first | exact Go.Mix.wanted_none rfl | exact Go.Mix.wanted_tt rfl rfl rfl | exact Go.Mix.wanted_ff rfl rfl rfl); go_simp; (try (go_ints; try go_simp)); refine hK _ ?_; clear hK K))
  (first | (refine Go.Flo.fw_calm rfl ?_ (fun K hK => ?_); (first | exact Go.Mix.wanted_none rfl | exact Go.Mix.wanted_tt rfl rfl rfl | exact Go.Mix.wanted_ff rfl rfl rfl); go_big_quiet_op; refine hK _ ?_; clear hK K) | (refine Go.Flo.fw_skip ?_ (fun K hK => ?_); (first | exact Go.Mix.wanted_tf rfl rfl rfl | exact Go.Mix.wanted_ft rfl rfl rfl); go_simp; refine hK _ ?_; clear hK K) | (refine Go.Flo.fw_any rfl ?_ (fun K hK => ?_); (first | exact Go.Mix.wanted_none rfl | exact Go.Mix.wanted_tt rfl rfl rfl | exact Go.Mix.wanted_ff rfl rfl rfl); go_simp; (try (go_ints; try go_simp)); refine hK _ ?_; clear hK K))
  (first | (refine Go.Flo.fw_calm rfl ?_ (fun K hK => ?_); (first | exact Go.Mix.wanted_none rfl | exact Go.Mix.wanted_tt rfl rfl rfl | exact Go.Mix.wanted_ff rfl rfl rfl); go_big_quiet_op; refine hK _ ?_; clear hK K) | (refine Go.Flo.fw_skip ?_ (fun K hK => ?_); (first | exact Go.Mix.wanted_tf rfl rfl rfl | exact Go.Mix.wanted_ft rfl rfl rfl); go_simp; refine hK _ ?_; clear hK K) | (refine Go.Flo.fw_any rfl ?_ (fun K hK => ?_); (first | exact Go.Mix.wanted_none rfl | exact Go.Mix.wanted_tt rfl rfl rfl | exact Go.Mix.wanted_ff rfl rfl rfl); go_simp; (try (go_ints; try go_simp)); refine hK _ ?_; clear hK K))
  (first | (refine Go.Flo.fw_calm rfl ?_ (fun K hK => ?_); (first | exact Go.Mix.wanted_none rfl | exact Go.Mix.wanted_tt rfl rfl rfl | exact Go.Mix.wanted_ff rfl rfl rfl); go_big_quiet_op; refine hK _ ?_; clear hK K) | (refine Go.Flo.fw_skip ?_ (fun K hK => ?_); (first | exact Go.Mix.wanted_tf rfl rfl rfl | exact Go.Mix.wanted_ft rfl rfl rfl); go_simp; refine hK _ ?_; clear hK K) | (refine Go.Flo.fw_any rfl ?_ (fun K hK => ?_); (first | exact Go.Mix.wanted_none rfl | exact Go.Mix.wanted_tt rfl rfl rfl | exact Go.Mix.wanted_ff rfl rfl rfl); go_simp; (try (go_ints; try go_simp)); refine hK _ ?_; clear hK K))
  refine Go.Flo.fw_loud rfl ?_ rfl (by simp) (fun wv hwv hav K hK => ?_) (fun v hv K hK => ?_)
  · (first | exact Go.Mix.wanted_none rfl | exact Go.Mix.wanted_tt rfl rfl rfl | exact Go.Mix.wanted_ff rfl rfl rfl)
  · obtain ⟨iv, rfl⟩ := hwv
    have hbv := HW.out iv
    (first | go_big_op | go_simp)
    go_at_call 62
    refine (rSun_any a l a2 a3 a4 a5 a6 _ HA.out HL.out plo phi dlo dhi mlo mhi).mono ?_
    rintro e w' ⟨rfl, hb⟩
    rw [← HF.out]
    exact hK _ _ (Go.Flo.owes_is _ rfl hb)
  obtain rfl := hv.is
  go_simp
  refine hK _ ?_
  clear hK K hv
  (first | (refine Go.Flo.fw_calm rfl ?_ (fun K hK => ?_); (first | exact Go.Mix.wanted_none rfl | exact Go.Mix.wanted_tt rfl rfl rfl | exact Go.Mix.wanted_ff rfl rfl rfl); go_big_quiet_op; refine hK _ ?_; clear hK K) | (refine Go.Flo.fw_skip ?_ (fun K hK => ?_); (first | exact Go.Mix.wanted_tf rfl rfl rfl | exact Go.Mix.wanted_ft rfl rfl rfl); go_simp; refine hK _ ?_; clear hK K) | (refine Go.Flo.fw_any rfl ?_ (fun K hK => ?_); (first | exact Go.Mix.wanted_none rfl | exact Go.Mix.wanted_tt rfl rfl rfl | exact Go.Mix.wanted_ff rfl rfl rfl); go_simp; (try (go_ints; try go_simp)); refine hK _ ?_; clear hK K))
  (first | (refine Go.Flo.fw_calm rfl ?_ (fun K hK => ?_); (first | exact Go.Mix.wanted_none rfl | exact Go.Mix.wanted_tt rfl rfl rfl | exact Go.Mix.wanted_ff rfl rfl rfl); go_big_quiet_op; refine hK _ ?_; clear hK K) | (refine Go.Flo.fw_skip ?_ (fun K hK => ?_); (first | exact Go.Mix.wanted_tf rfl rfl rfl | exact Go.Mix.wanted_ft rfl rfl rfl); go_simp; refine hK _ ?_; clear hK K) | (refine Go.Flo.fw_any rfl ?_ (fun K hK => ?_); (first | exact Go.Mix.wanted_none rfl | exact Go.Mix.wanted_tt rfl rfl rfl | exact Go.Mix.wanted_ff rfl rfl rfl); go_simp; (try (go_ints; try go_simp)); refine hK _ ?_; clear hK K))
  (refine Go.Flo.fw_calm rfl ?_ (fun K hK => ?_); (first | exact Go.Mix.wanted_none rfl | exact Go.Mix.wanted_tt rfl rfl rfl | exact Go.Mix.wanted_ff rfl rfl rfl); refine Go.Flo.quiet_load_row 23 _ rfl _ rfl _ #[.int .i32 (x 0), .int .i32 (x 1), .int .i32 (x 2)] _ (by rintro _ ⟨i, rfl⟩; exact ((HW.out i).block _ l3).trans b3) Try.underlying23 rfl size_vc ?_; go_simp; refine hK _ ?_; clear hK K)
  (first | (refine Go.Flo.fw_calm rfl ?_ (fun K hK => ?_); (first | exact Go.Mix.wanted_none rfl | exact Go.Mix.wanted_tt rfl rfl rfl | exact Go.Mix.wanted_ff rfl rfl rfl); go_big_quiet_op; refine hK _ ?_; clear hK K) | (refine Go.Flo.fw_skip ?_ (fun K hK => ?_); (first | exact Go.Mix.wanted_tf rfl rfl rfl | exact Go.Mix.wanted_ft rfl rfl rfl); go_simp; refine hK _ ?_; clear hK K) | (refine Go.Flo.fw_any rfl ?_ (fun K hK => ?_); (first | exact Go.Mix.wanted_none rfl | exact Go.Mix.wanted_tt rfl rfl rfl | exact Go.Mix.wanted_ff rfl rfl rfl); go_simp; (try (go_ints; try go_simp)); refine hK _ ?_; clear hK K))
  (first | (refine Go.Flo.fw_calm rfl ?_ (fun K hK => ?_); (first | exact Go.Mix.wanted_none rfl | exact Go.Mix.wanted_tt rfl rfl rfl | exact Go.Mix.wanted_ff rfl rfl rfl); go_big_quiet_op; refine hK _ ?_; clear hK K) | (refine Go.Flo.fw_skip ?_ (fun K hK => ?_); (first | exact Go.Mix.wanted_tf rfl rfl rfl | exact Go.Mix.wanted_ft rfl rfl rfl); go_simp; refine hK _ ?_; clear hK K) | (refine Go.Flo.fw_any rfl ?_ (fun K hK => ?_); (first | exact Go.Mix.wanted_none rfl | exact Go.Mix.wanted_tt rfl rfl rfl | exact Go.Mix.wanted_ff rfl rfl rfl); go_simp; (try (go_ints; try go_simp)); refine hK _ ?_; clear hK K))
  (first | (refine Go.Flo.fw_calm rfl ?_ (fun K hK => ?_); (first | exact Go.Mix.wanted_none rfl | exact Go.Mix.wanted_tt rfl rfl rfl | exact Go.Mix.wanted_ff rfl rfl rfl); go_big_quiet_op; refine hK _ ?_; clear hK K) | (refine Go.Flo.fw_skip ?_ (fun K hK => ?_); (first | exact Go.Mix.wanted_tf rfl rfl rfl | exact Go.Mix.wanted_ft rfl rfl rfl); go_simp; refine hK _ ?_; clear hK K) | (refine Go.Flo.fw_any rfl ?_ (fun K hK => ?_); (first | exact Go.Mix.wanted_none rfl | exact Go.Mix.wanted_tt rfl rfl rfl | exact Go.Mix.wanted_ff rfl rfl rfl); go_simp; (try (go_ints; try go_simp)); refine hK _ ?_; clear hK K))
  (first | (refine Go.Flo.fw_calm rfl ?_ (fun K hK => ?_); (first | exact Go.Mix.wanted_none rfl | exact Go.Mix.wanted_tt rfl rfl rfl | exact Go.Mix.wanted_ff rfl rfl rfl); go_big_quiet_op; refine hK _ ?_; clear hK K) | (refine Go.Flo.fw_skip ?_ (fun K hK => ?_); (first | exact Go.Mix.wanted_tf rfl rfl rfl | exact Go.Mix.wanted_ft rfl rfl rfl); go_simp; refine hK _ ?_; clear hK K) | (refine Go.Flo.fw_any rfl ?_ (fun K hK => ?_); (first | exact Go.Mix.wanted_none rfl | exact Go.Mix.wanted_tt rfl rfl rfl | exact Go.Mix.wanted_ff rfl rfl rfl); go_simp; (try (go_ints; try go_simp)); refine hK _ ?_; clear hK K))
  (first | (refine Go.Flo.fw_calm rfl ?_ (fun K hK => ?_); (first | exact Go.Mix.wanted_none rfl | exact Go.Mix.wanted_tt rfl rfl rfl | exact Go.Mix.wanted_ff rfl rfl rfl); go_big_quiet_op; refine hK _ ?_; clear hK K) | (refine Go.Flo.fw_skip ?_ (fun K hK => ?_); (first | exact Go.Mix.wanted_tf rfl rfl rfl | exact Go.Mix.wanted_ft rfl rfl rfl); go_simp; refine hK _ ?_; clear hK K) | (refine Go.Flo.fw_any rfl ?_ (fun K hK => ?_); (first | exact Go.Mix.wanted_none rfl | exact Go.Mix.wanted_tt rfl rfl rfl | exact Go.Mix.wanted_ff rfl rfl rfl); go_simp; (try (go_ints; try go_simp)); refine hK _ ?_; clear hK K))
  (first | (refine Go.Flo.fw_calm rfl ?_ (fun K hK => ?_); (first | exact Go.Mix.wanted_none rfl | exact Go.Mix.wanted_tt rfl rfl rfl | exact Go.Mix.wanted_ff rfl rfl rfl); go_big_quiet_op; refine hK _ ?_; clear hK K) | (refine Go.Flo.fw_skip ?_ (fun K hK => ?_); (first | exact Go.Mix.wanted_tf rfl rfl rfl | exact Go.Mix.wanted_ft rfl rfl rfl); go_simp; refine hK _ ?_; clear hK K) | (refine Go.Flo.fw_any rfl ?_ (fun K hK => ?_); (first | exact Go.Mix.wanted_none rfl | exact Go.Mix.wanted_tt rfl rfl rfl | exact Go.Mix.wanted_ff rfl rfl rfl); go_simp; (try (go_ints; try go_simp)); refine hK _ ?_; clear hK K))
  refine Go.Flo.fw_loud rfl ?_ rfl (by simp) (fun wv hwv hav K hK => ?_) (fun v hv K hK => ?_)
  · (first | exact Go.Mix.wanted_none rfl | exact Go.Mix.wanted_tt rfl rfl rfl | exact Go.Mix.wanted_ff rfl rfl rfl)
  · obtain ⟨iv, rfl⟩ := hwv
    have hbv := HW.out iv
    (first | go_big_op | go_simp)
    go_at_call 60
    refine (Sun_selfX x a2 a3 a4 a5 a6 _ HX.out plo phi dlo dhi mlo mhi).mono ?_
    rintro e w' ⟨rfl, hb⟩
    exact hK _ _ (Go.Flo.owes_is _ rfl hb)
  obtain rfl := hv.is
  go_simp
  refine hK _ ?_
  clear hK K hv
  (first | (refine Go.Flo.fw_calm rfl ?_ (fun K hK => ?_); (first | exact Go.Mix.wanted_none rfl | exact Go.Mix.wanted_tt rfl rfl rfl | exact Go.Mix.wanted_ff rfl rfl rfl); go_big_quiet_op; refine hK _ ?_; clear hK K) | (refine Go.Flo.fw_skip ?_ (fun K hK => ?_); (first | exact Go.Mix.wanted_tf rfl rfl rfl | exact Go.Mix.wanted_ft rfl rfl rfl); go_simp; refine hK _ ?_; clear hK K) | (refine Go.Flo.fw_any rfl ?_ (fun K hK => ?_); (first | exact Go.Mix.wanted_none rfl | exact Go.Mix.wanted_tt rfl rfl rfl | exact Go.Mix.wanted_ff rfl rfl rfl); go_simp; (try (go_ints; try go_simp)); refine hK _ ?_; clear hK K))
  (first | (refine Go.Flo.fw_calm rfl ?_ (fun K hK => ?_); (first | exact Go.Mix.wanted_none rfl | exact Go.Mix.wanted_tt rfl rfl rfl | exact Go.Mix.wanted_ff rfl rfl rfl); go_big_quiet_op; refine hK _ ?_; clear hK K) | (refine Go.Flo.fw_skip ?_ (fun K hK => ?_); (first | exact Go.Mix.wanted_tf rfl rfl rfl | exact Go.Mix.wanted_ft rfl rfl rfl); go_simp; refine hK _ ?_; clear hK K) | (refine Go.Flo.fw_any rfl ?_ (fun K hK => ?_); (first | exact Go.Mix.wanted_none rfl | exact Go.Mix.wanted_tt rfl rfl rfl | exact Go.Mix.wanted_ff rfl rfl rfl); go_simp; (try (go_ints; try go_simp)); refine hK _ ?_; clear hK K))
  (first | (refine Go.Flo.fw_calm rfl ?_ (fun K hK => ?_); (first | exact Go.Mix.wanted_none rfl | exact Go.Mix.wanted_tt rfl rfl rfl | exact Go.Mix.wanted_ff rfl rfl rfl); go_big_quiet_op; refine hK _ ?_; clear hK K) | (refine Go.Flo.fw_skip ?_ (fun K hK => ?_); (first | exact Go.Mix.wanted_tf rfl rfl rfl | exact Go.Mix.wanted_ft rfl rfl rfl); go_simp; refine hK _ ?_; clear hK K) | (refine Go.Flo.fw_any rfl ?_ (fun K hK => ?_); (first | exact Go.Mix.wanted_none rfl | exact Go.Mix.wanted_tt rfl rfl rfl | exact Go.Mix.wanted_ff rfl rfl rfl); go_simp; (try (go_ints; try go_simp)); refine hK _ ?_; clear hK K))
  (first | (refine Go.Flo.fw_calm rfl ?_ (fun K hK => ?_); (first | exact Go.Mix.wanted_none rfl | exact Go.Mix.wanted_tt rfl rfl rfl | exact Go.Mix.wanted_ff rfl rfl rfl); go_big_quiet_op; refine hK _ ?_; clear hK K) | (refine Go.Flo.fw_skip ?_ (fun K hK => ?_); (first | exact Go.Mix.wanted_tf rfl rfl rfl | exact Go.Mix.wanted_ft rfl rfl rfl); go_simp; refine hK _ ?_; clear hK K) | (refine Go.Flo.fw_any rfl ?_ (fun K hK => ?_); (first | exact Go.Mix.wanted_none rfl | exact Go.Mix.wanted_tt rfl rfl rfl | exact Go.Mix.wanted_ff rfl rfl rfl); go_simp; (try (go_ints; try go_simp)); refine hK _ ?_; clear hK K))
  (refine Go.Flo.fw_calm rfl ?_ (fun K hK => ?_); (first | exact Go.Mix.wanted_none rfl | exact Go.Mix.wanted_tt rfl rfl rfl | exact Go.Mix.wanted_ff rfl rfl rfl); refine Go.Flo.quiet_load_row 23 _ rfl _ rfl _ #[.int .i32 (a 0), .int .i32 (a 1), .int .i32 (a 2)] _ (by rintro _ ⟨i, rfl⟩; exact ((HW.out i).block _ l0).trans b0) Try.underlying23 rfl size_vc ?_; go_simp; refine hK _ ?_; clear hK K)
  (first | (refine Go.Flo.fw_calm rfl ?_ (fun K hK => ?_); (first | exact Go.Mix.wanted_none rfl | exact Go.Mix.wanted_tt rfl rfl rfl | exact Go.Mix.wanted_ff rfl rfl rfl); go_big_quiet_op; refine hK _ ?_; clear hK K) | (refine Go.Flo.fw_skip ?_ (fun K hK => ?_); (first | exact Go.Mix.wanted_tf rfl rfl rfl | exact Go.Mix.wanted_ft rfl rfl rfl); go_simp; refine hK _ ?_; clear hK K) | (refine Go.Flo.fw_any rfl ?_ (fun K hK => ?_); (first | exact Go.Mix.wanted_none rfl | exact Go.Mix.wanted_tt rfl rfl rfl | exact Go.Mix.wanted_ff rfl rfl rfl); go_simp; (try (go_ints; try go_simp)); refine hK _ ?_; clear hK K))
  (first | (refine Go.Flo.fw_calm rfl ?_ (fun K hK => ?_); (first | exact Go.Mix.wanted_none rfl | exact Go.Mix.wanted_tt rfl rfl rfl | exact Go.Mix.wanted_ff rfl rfl rfl); go_big_quiet_op; refine hK _ ?_; clear hK K) | (refine Go.Flo.fw_skip ?_ (fun K hK => ?_); (first | exact Go.Mix.wanted_tf rfl rfl rfl | exact Go.Mix.wanted_ft rfl rfl rfl); go_simp; refine hK _ ?_; clear hK K) | (refine Go.Flo.fw_any rfl ?_ (fun K hK => ?_); (first | exact Go.Mix.wanted_none rfl | exact Go.Mix.wanted_tt rfl rfl rfl | exact Go.Mix.wanted_ff rfl rfl rfl); go_simp; (try (go_ints; try go_simp)); refine hK _ ?_; clear hK K))
  (first | (refine Go.Flo.fw_calm rfl ?_ (fun K hK => ?_); (first | exact Go.Mix.wanted_none rfl | exact Go.Mix.wanted_tt rfl rfl rfl | exact Go.Mix.wanted_ff rfl rfl rfl); go_big_quiet_op; refine hK _ ?_; clear hK K) | (refine Go.Flo.fw_skip ?_ (fun K hK => ?_); (first | exact Go.Mix.wanted_tf rfl rfl rfl | exact Go.Mix.wanted_ft rfl rfl rfl); go_simp; refine hK _ ?_; clear hK K) | (refine Go.Flo.fw_any rfl ?_ (fun K hK => ?_); (first | exact Go.Mix.wanted_none rfl | exact Go.Mix.wanted_tt rfl rfl rfl | exact Go.Mix.wanted_ff rfl rfl rfl); go_simp; (try (go_ints; try go_simp)); refine hK _ ?_; clear hK K))
  (first | (refine Go.Flo.fw_calm rfl ?_ (fun K hK => ?_); (first | exact Go.Mix.wanted_none rfl | exact Go.Mix.wanted_tt rfl rfl rfl | exact Go.Mix.wanted_ff rfl rfl rfl); go_big_quiet_op; refine hK _ ?_; clear hK K) | (refine Go.Flo.fw_skip ?_ (fun K hK => ?_); (first | exact Go.Mix.wanted_tf rfl rfl rfl | exact Go.Mix.wanted_ft rfl rfl rfl); go_simp; refine hK _ ?_; clear hK K) | (refine Go.Flo.fw_any rfl ?_ (fun K hK => ?_); (first | exact Go.Mix.wanted_none rfl | exact Go.Mix.wanted_tt rfl rfl rfl | exact Go.Mix.wanted_ff rfl rfl rfl); go_simp; (try (go_ints; try go_simp)); refine hK _ ?_; clear hK K))
  (first | (refine Go.Flo.fw_calm rfl ?_ (fun K hK => ?_); (first | exact Go.Mix.wanted_none rfl | exact Go.Mix.wanted_tt rfl rfl rfl | exact Go.Mix.wanted_ff rfl rfl rfl); go_big_quiet_op; refine hK _ ?_; clear hK K) | (refine Go.Flo.fw_skip ?_ (fun K hK => ?_); (first | exact Go.Mix.wanted_tf rfl rfl rfl | exact Go.Mix.wanted_ft rfl rfl rfl); go_simp; refine hK _ ?_; clear hK K) | (refine Go.Flo.fw_any rfl ?_ (fun K hK => ?_); (first | exact Go.Mix.wanted_none rfl | exact Go.Mix.wanted_tt rfl rfl rfl | exact Go.Mix.wanted_ff rfl rfl rfl); go_simp; (try (go_ints; try go_simp)); refine hK _ ?_; clear hK K))
  refine Go.Flo.fw_loud rfl ?_ rfl (by simp) (fun wv hwv hav K hK => ?_) (fun v hv K hK => ?_)
  · (first | exact Go.Mix.wanted_none rfl | exact Go.Mix.wanted_tt rfl rfl rfl | exact Go.Mix.wanted_ff rfl rfl rfl)
  · obtain ⟨iv, rfl⟩ := hwv
    have hbv := HW.out iv
    (first | go_big_op | go_simp)
    go_at_call 60
    refine (Sun_none a a3 a4 a5 a6 _ HA.out plo phi dlo dhi mlo mhi).mono ?_
    rintro e w' ⟨rfl, hb⟩
    exact hK _ _ (Go.Flo.owes_is _ rfl hb)
  obtain rfl := hv.is
  go_simp
  refine hK _ ?_
  clear hK K hv
  (repeat (first | (refine Go.Flo.fw_calm rfl ?_ (fun K hK => ?_); (first | exact Go.Mix.wanted_none rfl | exact Go.Mix.wanted_tt rfl rfl rfl | exact Go.Mix.wanted_ff rfl rfl rfl); go_big_quiet_op; refine hK _ ?_; clear hK K) | (refine Go.Flo.fw_skip ?_ (fun K hK => ?_); (first | exact Go.Mix.wanted_tf rfl rfl rfl | exact Go.Mix.wanted_ft rfl rfl rfl); go_simp; refine hK _ ?_; clear hK K) | (refine Go.Flo.fw_any rfl ?_ (fun K hK => ?_); (first | exact Go.Mix.wanted_none rfl | exact Go.Mix.wanted_tt rfl rfl rfl | exact Go.Mix.wanted_ff rfl rfl rfl); go_simp; (try (go_ints; try go_simp)); refine hK _ ?_; clear hK K)))
  refine Go.Flo.fw_nil ?_
  intro w9 hww9 hfw9 huw9
  refine Go.Flo.tw_nil ?_
  obtain ⟨iend, hiend⟩ := hww9
  have hbw9 := HW.out iend
  rw [← hiend] at hbw9
  clear hiend iend huw9
  have HB := Lib.hid (HS.out.step hbw9)
  clear hfw9 HJ HW hne hbw9 b0 b1 b2 b3
  go_wp2_with fail
  go_ret
  exact ⟨rfl, HB.out.be⟩
end Go.Proofs.Ytinaimacocgemaa
