/- SteerDamps. -/
import Derived.Test.YtinaimacocgemaaLaw23
import Derived.Test.YtinaimacocgemaaFrame
import Derived.Test.YtinaimacocgemaaBs2
namespace Go.Proofs.Ytinaimacocgemaa
open Go.RowKit Go.Own Bs
set_option linter.unusedVariables false
set_option linter.unusedSimpArgs false
/-- Where the law stands: the two fields, the dipole. -/
structure DmSt (w wr : World) (g : Nat) (a l f : Nat → Int) : Prop where
  be : Below w.heap.size w wr
  b0 : wr.heap[w.heap.size]? = some (.cells #[.int .i32 (a 0), .int .i32 (a 1), .int .i32 (a 2)] 23 (0, 0))
  b1 : wr.heap[w.heap.size + 1]? = some (.cells #[.int .i32 (l 0), .int .i32 (l 1), .int .i32 (l 2)] 23 (0, 0))
  b2 : wr.heap[g]? = some (.cells #[.int .i32 (f 0), .int .i32 (f 1), .int .i32 (f 2)] 23 (0, 0))
theorem DmSt.step {w wr w' : World} {g : Nat} {a l f : Nat → Int} (h : DmSt w wr g a l f) (hb : Below wr.heap.size wr w') : DmSt w w' g a l f :=
  ⟨h.be.trans (hb.mono h.be.size), box_below h.b0 hb (box_lt h.b0), box_below h.b1 hb (box_lt h.b1), box_below h.b2 hb (box_lt h.b2)⟩
set_option maxRecDepth 100000 in
set_option maxHeartbeats 8000000 in
theorem walk_SteerDamps (x0 y0 z0 x1 y1 z1 a2 a3 a4 : Int) (w : World) (wx0 : (Lit.int .i32 x0).wf = true) (wy0 : (Lit.int .i32 y0).wf = true) (wz0 : (Lit.int .i32 z0).wf = true) (wx1 : (Lit.int .i32 x1).wf = true) (wy1 : (Lit.int .i32 y1).wf = true) (wz1 : (Lit.int .i32 z1).wf = true) (w2 : (Lit.int .i32 a2).wf = true) (w3 : (Lit.int .i64 a3).wf = true) (w4 : (Lit.int .i32 a4).wf = true) :
    Calls Try.prog 10 #[.agg #[.int .i32 x0, .int .i32 y0, .int .i32 z0], .agg #[.int .i32 x1, .int .i32 y1, .int .i32 z1], .int .i32 a2, .int .i64 a3, .int .i32 a4] w fun e w' => e = .returned (.bool true) ∧ Below w.heap.size w w' := by
  obtain ⟨a, ha, rfl, rfl, rfl⟩ := vec_of wx0 wy0 wz0
  obtain ⟨l, hl, rfl, rfl, rfl⟩ := vec_of wx1 wy1 wz1
  obtain ⟨glo, ghi⟩ := bounds_i32 w2
  obtain ⟨mlo, mhi⟩ := bounds_i32 w4
  clear wx0 wy0 wz0 wx1 wy1 wz1 w2 w3 w4
  have hz := zero_vcS
  have h0 := heap_alloc2_old w (.cells #[.int .i32 (a 0), .int .i32 (a 1), .int .i32 (a 2)] 23) (.cells #[.int .i32 (l 0), .int .i32 (l 1), .int .i32 (l 2)] 23)
  have h1 := heap_alloc2_new w (.cells #[.int .i32 (a 0), .int .i32 (a 1), .int .i32 (a 2)] 23) (.cells #[.int .i32 (l 0), .int .i32 (l 1), .int .i32 (l 2)] 23)
  have hb0 : Below w.heap.size w ((w.alloc (.cells #[.int .i32 (a 0), .int .i32 (a 1), .int .i32 (a 2)] 23)).alloc (.cells #[.int .i32 (l 0), .int .i32 (l 1), .int .i32 (l 2)] 23)) := by repeat' (first | (with_reducible exact Below.refl _ _) | (with_reducible assumption) | (with_reducible refine Below.setCell ?_ ?_ _) | (with_reducible refine Below.alloc ?_ ?_ _) | (with_reducible refine Below.drew ?_) | (with_reducible refine Below.drawsN ?_ _) | go_size)
  obtain ⟨f, hf⟩ : ∃ f, f = bdF a l a2 a3 a4 := ⟨_, rfl⟩
  have hF3 : In3 f := fun k _ => by
    have := (damp_ok a l a2 a3 a4 k).1
    rw [hf]
    omega
  have hD := fun k => damp_ok a l a2 a3 a4 k
  rw [← hf] at hD
  obtain ⟨M, hM⟩ : ∃ M, M = max a4 0 := ⟨_, rfl⟩
  have hM0 : 0 ≤ M := by omega
  have hM1 : M ≤ 2147483647 := by omega
  rw [← hM] at hD
  have HD := Lib.hid hD
  have HF3 := Lib.hid hF3
  have HF := Lib.hid hf
  have HM := Lib.hid hM
  have HA := Lib.hid ha
  have HL := Lib.hid hl
  clear hD hF3 hf hM ha hl
  go_enter Try.func10, Try.ntmps10
  go_upto_region 1 with fail
  obtain ⟨w1, hw1⟩ : ∃ w1, w1 = (w.alloc (.cells #[.int .i32 (a 0), .int .i32 (a 1), .int .i32 (a 2)] 23)).alloc (.cells #[.int .i32 (l 0), .int .i32 (l 1), .int .i32 (l 2)] 23) := ⟨_, rfl⟩
  rw [← hw1] at h0 h1 hb0 ⊢
  clear hw1
  go_wp2_with fail
  go_at_call 57
  refine (awake23 _).mono ?_
  rintro e w2 ⟨rfl, hb⟩
  have h0 := box_below h0 hb (box_lt h0)
  have h1 := box_below h1 hb (box_lt h1)
  have HB2 := Lib.hid (hb0.trans (hb.mono hb0.size))
  clear hb hb0
  go_upto_region 3 with fail
  go_wp2_with (first | ((with_reducible show wpList _ _ _ (_ :: _) _ _); refine wpList_load_row rfl 23 _ rfl _ rfl _ _ _ _ h0 Try.underlying23 rfl (by exact size_vc) ?_; (try go_simp)) | ((with_reducible show wpList _ _ _ (_ :: _) _ _); refine wpList_load_row rfl 23 _ rfl _ rfl _ _ _ _ h1 Try.underlying23 rfl (by exact size_vc) ?_; (try go_simp)))
  refine (Bdot_any a l a2 a3 a4 _ HA.out HL.out glo ghi mlo mhi).mono ?_
  rintro e w3 ⟨rfl, hb⟩
  rw [← HF.out]
  have h0 := box_below h0 hb (box_lt h0)
  have h1 := box_below h1 hb (box_lt h1)
  have hB3 := HB2.out.trans (hb.mono HB2.out.size)
  clear hb HB2
  go_upto_region 4 with ((with_reducible show wpList _ _ _ (_ :: _) _ _); refine wpList_store_row rfl 23 _ _ rfl _ _ rfl rfl _ _ (heap_alloc_new _ _) (by exact size_vc) (by rfl) (by simp [Value.oneCell']) ?_; rw [World.setRow_alloc_new])
  have h2 := heap_alloc_new w3 (.cells #[.int .i32 (f 0), .int .i32 (f 1), .int .i32 (f 2)] 23)
  have HS := Lib.hid (show DmSt w (w3.alloc (.cells #[.int .i32 (f 0), .int .i32 (f 1), .int .i32 (f 2)] 23)) w3.heap.size a l f from ⟨hB3.alloc hB3.size _, (Below.heap_alloc _ _ _ (box_lt h0)).trans h0, (Below.heap_alloc _ _ _ (box_lt h1)).trans h1, h2⟩)
  obtain ⟨g, hg⟩ : ∃ g, g = w3.heap.size := ⟨_, rfl⟩
  obtain ⟨w3', hw3⟩ : ∃ w4, w4 = w3.alloc (.cells #[.int .i32 (f 0), .int .i32 (f 1), .int .i32 (f 2)] 23) := ⟨_, rfl⟩
  rw [← hw3, ← hg] at HS ⊢
  clear hw3 hg h0 h1 h2 hB3 w3
  obtain ⟨w3, hw3⟩ : ∃ w3, w3 = w3' := ⟨_, rfl⟩
  rw [← hw3] at HS ⊢
  clear hw3
  have b2 := HS.out.b2
  go_wp2_with ((with_reducible show wpList _ _ _ (_ :: _) _ _); refine wpList_load_row rfl 23 _ rfl _ rfl _ _ _ _ b2 Try.underlying23 rfl (by exact size_vc) ?_; (try go_simp))
  clear b2
  have hmx := fun (w : World) => run_maxJ (P := Try.prog) #[21, 21] 21 .i32 a4 0 w
  rw [← HM.out] at hmx
  refine wp_loop_rounds 4 ?_
  rw [rounds_succ]
  go_upto_region 7 with fail
  have c0 := cell_of_row _ _ 0 _ _ _ HS.out.b0
  have c1 := cell_of_row _ _ 0 _ _ _ HS.out.b1
  have ba := HA.out 0 (by decide)
  have bl := HL.out 0 (by decide)
  go_quiet (fail)
  have hS := HS.out.step (bel_drewV w3 nq)
  obtain ⟨w3, hw3⟩ : ∃ w4, w4 = w3.drewN nq := ⟨_, rfl⟩
  rw [← hw3] at hS ⊢
  have HS := Lib.hid hS
  obtain ⟨hx1, hx2, hx3⟩ := HD.out 0
  have hfb := HF3.out 0 (by decide)
  clear hS hw3 c0 c1 ba bl
  obtain ⟨x, hx⟩ : ∃ x, x = f 0 := ⟨_, rfl⟩
  obtain ⟨d, hd⟩ : ∃ d, d = a 0 - l 0 := ⟨_, rfl⟩
  rw [← hx] at hx1 hx2 hx3 hfb
  rw [← hd] at hx2 hx3
  rw [← hx, ← hd]
  clear hx hd
  obtain ⟨hxa, hxb⟩ := hx1
  have HXA := Lib.hid hxa
  have HXB := Lib.hid hxb
  clear hxa hxb
  go_upto_region 8 with fail
  go_cut [62] (fun s62 wx => s62 = .bool false ∧ wx = w3)
  case first =>
    rcases (by omega : a2 < 0 ∨ 0 ≤ a2) with gg | gg
    · go_wp2
      go_meet
      case rel => exact ⟨by first | rfl | rw [decide_eq_false (by omega)], rfl⟩
    rcases (by omega : a3 ≤ 0 ∨ 0 < a3) with qq | qq
    · have y2 := hx2 gg qq
      have y3 := hx3 gg qq
      clear hx2 hx3
      rcases (by omega : 0 < d ∨ (¬ 0 < d ∧ ¬ d < -1) ∨ (¬ 0 < d ∧ d < -1)) with d1 | ⟨d1, d2⟩ | ⟨d1, d2⟩
      · have y := y2 d1
        have d2 : ¬ d < -1 := by omega
        clear y2 y3
        go_wp2
        go_meet
        case rel => exact ⟨by first | rfl | rw [decide_eq_false (by omega)], rfl⟩
      · clear y2 y3
        go_wp2
        go_meet
        case rel => exact ⟨by first | rfl | rw [decide_eq_false (by omega)], rfl⟩
      · have y := y3 d2
        clear y2 y3
        go_wp2
        go_meet
        case rel => exact ⟨by first | rfl | rw [decide_eq_false (by omega)], rfl⟩
    · clear hx2 hx3
      rcases (by omega : 0 < d ∨ (¬ 0 < d ∧ ¬ d < -1) ∨ (¬ 0 < d ∧ d < -1)) with d1 | ⟨d1, d2⟩ | ⟨d1, d2⟩
      · have d2 : ¬ d < -1 := by omega
        rcases (by omega : 0 < x ∨ x ≤ 0) with x1 | x1
        · go_wp2
          go_meet
          case rel => exact ⟨by first | rfl | rw [decide_eq_false (by omega)], rfl⟩
        · go_wp2
          go_meet
          case rel => exact ⟨by first | rfl | rw [decide_eq_false (by omega)], rfl⟩
      · go_wp2
        go_meet
        case rel => exact ⟨by first | rfl | rw [decide_eq_false (by omega)], rfl⟩
      · rcases (by omega : x < 0 ∨ 0 ≤ x) with x1 | x1
        · rcases (by omega : 0 < a4 ∨ a4 ≤ 0) with m1 | m1
          · go_wp2
            go_meet
            case rel => exact ⟨by first | rfl | rw [decide_eq_false (by omega)], rfl⟩
          · go_wp2
            go_meet
            case rel => exact ⟨by first | rfl | rw [decide_eq_false (by omega)], rfl⟩
        · go_wp2
          go_meet
          case rel => exact ⟨by first | rfl | rw [decide_eq_false (by omega)], rfl⟩
  case rest =>
  obtain ⟨rfl, hwc⟩ := hcut
  have hwc2 := hwc.symm
  clear hwc
  subst hwc2
  clear hx2 hx3
  have hxa := HXA.out
  have hxb := HXB.out
  have hxc : ¬ M < x := by omega
  have hxd : ¬ x < -M := by omega
  go_wp2_with fail
  rw [rounds_succ]
  go_upto_region 7 with fail
  have c0 := cell_of_row _ _ 1 _ _ _ HS.out.b0
  have c1 := cell_of_row _ _ 1 _ _ _ HS.out.b1
  have ba := HA.out 1 (by decide)
  have bl := HL.out 1 (by decide)
  go_quiet (fail)
  have hS := HS.out.step (bel_drewV w3 nq)
  obtain ⟨w3, hw3⟩ : ∃ w4, w4 = w3.drewN nq := ⟨_, rfl⟩
  rw [← hw3] at hS ⊢
  have HS := Lib.hid hS
  obtain ⟨hx1, hx2, hx3⟩ := HD.out 1
  have hfb := HF3.out 1 (by decide)
  clear hS hw3 c0 c1 ba bl
  obtain ⟨x, hx⟩ : ∃ x, x = f 1 := ⟨_, rfl⟩
  obtain ⟨d, hd⟩ : ∃ d, d = a 1 - l 1 := ⟨_, rfl⟩
  rw [← hx] at hx1 hx2 hx3 hfb
  rw [← hd] at hx2 hx3
  rw [← hx, ← hd]
  clear hx hd
  obtain ⟨hxa, hxb⟩ := hx1
  have HXA := Lib.hid hxa
  have HXB := Lib.hid hxb
  clear hxa hxb
  go_upto_region 8 with fail
  go_cut [62] (fun s62 wx => s62 = .bool false ∧ wx = w3)
  case first =>
    rcases (by omega : a2 < 0 ∨ 0 ≤ a2) with gg | gg
    · go_wp2
      go_meet
      case rel => exact ⟨by first | rfl | rw [decide_eq_false (by omega)], rfl⟩
    rcases (by omega : a3 ≤ 0 ∨ 0 < a3) with qq | qq
    · have y2 := hx2 gg qq
      have y3 := hx3 gg qq
      clear hx2 hx3
      rcases (by omega : 0 < d ∨ (¬ 0 < d ∧ ¬ d < -1) ∨ (¬ 0 < d ∧ d < -1)) with d1 | ⟨d1, d2⟩ | ⟨d1, d2⟩
      · have y := y2 d1
        have d2 : ¬ d < -1 := by omega
        clear y2 y3
        go_wp2
        go_meet
        case rel => exact ⟨by first | rfl | rw [decide_eq_false (by omega)], rfl⟩
      · clear y2 y3
        go_wp2
        go_meet
        case rel => exact ⟨by first | rfl | rw [decide_eq_false (by omega)], rfl⟩
      · have y := y3 d2
        clear y2 y3
        go_wp2
        go_meet
        case rel => exact ⟨by first | rfl | rw [decide_eq_false (by omega)], rfl⟩
    · clear hx2 hx3
      rcases (by omega : 0 < d ∨ (¬ 0 < d ∧ ¬ d < -1) ∨ (¬ 0 < d ∧ d < -1)) with d1 | ⟨d1, d2⟩ | ⟨d1, d2⟩
      · have d2 : ¬ d < -1 := by omega
        rcases (by omega : 0 < x ∨ x ≤ 0) with x1 | x1
        · go_wp2
          go_meet
          case rel => exact ⟨by first | rfl | rw [decide_eq_false (by omega)], rfl⟩
        · go_wp2
          go_meet
          case rel => exact ⟨by first | rfl | rw [decide_eq_false (by omega)], rfl⟩
      · go_wp2
        go_meet
        case rel => exact ⟨by first | rfl | rw [decide_eq_false (by omega)], rfl⟩
      · rcases (by omega : x < 0 ∨ 0 ≤ x) with x1 | x1
        · rcases (by omega : 0 < a4 ∨ a4 ≤ 0) with m1 | m1
          · go_wp2
            go_meet
            case rel => exact ⟨by first | rfl | rw [decide_eq_false (by omega)], rfl⟩
          · go_wp2
            go_meet
            case rel => exact ⟨by first | rfl | rw [decide_eq_false (by omega)], rfl⟩
        · go_wp2
          go_meet
          case rel => exact ⟨by first | rfl | rw [decide_eq_false (by omega)], rfl⟩
  case rest =>
  obtain ⟨rfl, hwc⟩ := hcut
  have hwc2 := hwc.symm
  clear hwc
  subst hwc2
  clear hx2 hx3
  have hxa := HXA.out
  have hxb := HXB.out
  have hxc : ¬ M < x := by omega
  have hxd : ¬ x < -M := by omega
  go_wp2_with fail
  rw [rounds_succ]
  go_upto_region 7 with fail
  have c0 := cell_of_row _ _ 2 _ _ _ HS.out.b0
  have c1 := cell_of_row _ _ 2 _ _ _ HS.out.b1
  have ba := HA.out 2 (by decide)
  have bl := HL.out 2 (by decide)
  go_quiet (fail)
  have hS := HS.out.step (bel_drewV w3 nq)
  obtain ⟨w3, hw3⟩ : ∃ w4, w4 = w3.drewN nq := ⟨_, rfl⟩
  rw [← hw3] at hS ⊢
  have HS := Lib.hid hS
  obtain ⟨hx1, hx2, hx3⟩ := HD.out 2
  have hfb := HF3.out 2 (by decide)
  clear hS hw3 c0 c1 ba bl
  obtain ⟨x, hx⟩ : ∃ x, x = f 2 := ⟨_, rfl⟩
  obtain ⟨d, hd⟩ : ∃ d, d = a 2 - l 2 := ⟨_, rfl⟩
  rw [← hx] at hx1 hx2 hx3 hfb
  rw [← hd] at hx2 hx3
  rw [← hx, ← hd]
  clear hx hd
  obtain ⟨hxa, hxb⟩ := hx1
  have HXA := Lib.hid hxa
  have HXB := Lib.hid hxb
  clear hxa hxb
  go_upto_region 8 with fail
  go_cut [62] (fun s62 wx => s62 = .bool false ∧ wx = w3)
  case first =>
    rcases (by omega : a2 < 0 ∨ 0 ≤ a2) with gg | gg
    · go_wp2
      go_meet
      case rel => exact ⟨by first | rfl | rw [decide_eq_false (by omega)], rfl⟩
    rcases (by omega : a3 ≤ 0 ∨ 0 < a3) with qq | qq
    · have y2 := hx2 gg qq
      have y3 := hx3 gg qq
      clear hx2 hx3
      rcases (by omega : 0 < d ∨ (¬ 0 < d ∧ ¬ d < -1) ∨ (¬ 0 < d ∧ d < -1)) with d1 | ⟨d1, d2⟩ | ⟨d1, d2⟩
      · have y := y2 d1
        have d2 : ¬ d < -1 := by omega
        clear y2 y3
        go_wp2
        go_meet
        case rel => exact ⟨by first | rfl | rw [decide_eq_false (by omega)], rfl⟩
      · clear y2 y3
        go_wp2
        go_meet
        case rel => exact ⟨by first | rfl | rw [decide_eq_false (by omega)], rfl⟩
      · have y := y3 d2
        clear y2 y3
        go_wp2
        go_meet
        case rel => exact ⟨by first | rfl | rw [decide_eq_false (by omega)], rfl⟩
    · clear hx2 hx3
      rcases (by omega : 0 < d ∨ (¬ 0 < d ∧ ¬ d < -1) ∨ (¬ 0 < d ∧ d < -1)) with d1 | ⟨d1, d2⟩ | ⟨d1, d2⟩
      · have d2 : ¬ d < -1 := by omega
        rcases (by omega : 0 < x ∨ x ≤ 0) with x1 | x1
        · go_wp2
          go_meet
          case rel => exact ⟨by first | rfl | rw [decide_eq_false (by omega)], rfl⟩
        · go_wp2
          go_meet
          case rel => exact ⟨by first | rfl | rw [decide_eq_false (by omega)], rfl⟩
      · go_wp2
        go_meet
        case rel => exact ⟨by first | rfl | rw [decide_eq_false (by omega)], rfl⟩
      · rcases (by omega : x < 0 ∨ 0 ≤ x) with x1 | x1
        · rcases (by omega : 0 < a4 ∨ a4 ≤ 0) with m1 | m1
          · go_wp2
            go_meet
            case rel => exact ⟨by first | rfl | rw [decide_eq_false (by omega)], rfl⟩
          · go_wp2
            go_meet
            case rel => exact ⟨by first | rfl | rw [decide_eq_false (by omega)], rfl⟩
        · go_wp2
          go_meet
          case rel => exact ⟨by first | rfl | rw [decide_eq_false (by omega)], rfl⟩
  case rest =>
  obtain ⟨rfl, hwc⟩ := hcut
  have hwc2 := hwc.symm
  clear hwc
  subst hwc2
  clear hx2 hx3
  have hxa := HXA.out
  have hxb := HXB.out
  have hxc : ¬ M < x := by omega
  have hxd : ¬ x < -M := by omega
  go_wp2_with fail
  rw [rounds_succ]
  go_upto_region 13 with fail
  have b0 := HS.out.b0
  have b1 := HS.out.b1
  have b2 := HS.out.b2
  have l0 := box_lt b0
  have l1 := box_lt b1
  have l2 := box_lt b2
  obtain ⟨I, W, hne, hWI, hIW⟩ := Go.Mix.family (fun v => Below w3.heap.size w3 v) (Below.refl _ _)
  have HJ := Lib.hid hIW
  have HW := Lib.hid hWI
  clear hWI hIW
  refine Go.Flo.wp_region (fun w' => ∃ i, w' = W i) 19 [Go.Flo.Spec.is (.agg #[.int .i32 (f 0), .int .i32 (f 1), .int .i32 (f 2)]), Go.Flo.Spec.is (.agg #[.int .i32 0, .int .i32 0, .int .i32 0])] (by kernel_rfl) (by kernel_rfl) (by decide) (by rintro _ w' ⟨i, rfl⟩ hb; exact HJ.out _ ((HW.out i).trans (hb.mono (HW.out i).size))) (HJ.out _ (Below.refl _ _).drew) ?_
  simp only [Go.Flo.pair, Go.Mix.calm, List.take, List.drop, if_true, Bool.false_eq_true, if_false, Nat.reduceAdd, Nat.reduceSub]
  (refine Go.Flo.fw_calm rfl ?_ (fun K hK => ?_); (first | exact Go.Mix.wanted_none rfl | exact Go.Mix.wanted_tt rfl rfl rfl | exact Go.Mix.wanted_ff rfl rfl rfl); refine Go.Flo.quiet_load_row 23 _ rfl _ rfl _ #[.int .i32 (f 0), .int .i32 (f 1), .int .i32 (f 2)] _ (by rintro _ ⟨i, rfl⟩; exact ((HW.out i).block _ l2).trans b2) Try.underlying23 rfl size_vc ?_; go_simp; refine hK _ ?_; clear hK K)
  (refine Go.Flo.fw_calm rfl ?_ (fun K hK => ?_); (first | exact Go.Mix.wanted_none rfl | exact Go.Mix.wanted_tt rfl rfl rfl | exact Go.Mix.wanted_ff rfl rfl rfl); refine Go.Flo.quiet_load_row 23 _ rfl _ rfl _ #[.int .i32 (a 0), .int .i32 (a 1), .int .i32 (a 2)] _ (by rintro _ ⟨i, rfl⟩; exact ((HW.out i).block _ l0).trans b0) Try.underlying23 rfl size_vc ?_; go_simp; refine hK _ ?_; clear hK K)
  (refine Go.Flo.fw_calm rfl ?_ (fun K hK => ?_); (first | exact Go.Mix.wanted_none rfl | exact Go.Mix.wanted_tt rfl rfl rfl | exact Go.Mix.wanted_ff rfl rfl rfl); refine Go.Flo.quiet_load_row 23 _ rfl _ rfl _ #[.int .i32 (l 0), .int .i32 (l 1), .int .i32 (l 2)] _ (by rintro _ ⟨i, rfl⟩; exact ((HW.out i).block _ l1).trans b1) Try.underlying23 rfl size_vc ?_; go_simp; refine hK _ ?_; clear hK K)
  (first | (refine Go.Flo.fw_calm rfl ?_ (fun K hK => ?_); (first | exact Go.Mix.wanted_none rfl | exact Go.Mix.wanted_tt rfl rfl rfl | exact Go.Mix.wanted_ff rfl rfl rfl); go_big_quiet_op; refine hK _ ?_; clear hK K) | (refine Go.Flo.fw_skip ?_ (fun K hK => ?_); (first | exact Go.Mix.wanted_tf rfl rfl rfl | exact Go.Mix.wanted_ft rfl rfl rfl); go_simp; refine hK _ ?_; clear hK K) | (refine Go.Flo.fw_any rfl ?_ (fun K hK => ?_); (first | exact Go.Mix.wanted_none rfl | exact Go.Mix.wanted_tt rfl rfl rfl | exact Go.Mix.wanted_ff rfl rfl rfl); go_simp; (try (go_ints; try go_simp)); refine hK _ ?_; clear hK K))
  (first | (refine Go.Flo.fw_calm rfl ?_ (fun K hK => ?_); (first | exact Go.Mix.wanted_none rfl | exact Go.Mix.wanted_tt rfl rfl rfl | exact Go.Mix.wanted_ff rfl rfl rfl); go_big_quiet_op; refine hK _ ?_; clear hK K) | (refine Go.Flo.fw_skip ?_ (fun K hK => ?_); (first | exact Go.Mix.wanted_tf rfl rfl rfl | exact Go.Mix.wanted_ft rfl rfl rfl); go_simp; refine hK _ ?_; clear hK K) | (refine Go.Flo.fw_any rfl ?_ (fun K hK => ?_); (first | exact Go.Mix.wanted_none rfl | exact Go.Mix.wanted_tt rfl rfl rfl | exact Go.Mix.wanted_ff rfl rfl rfl); go_simp; (try (go_ints; try go_simp)); refine hK _ ?_; clear hK K))
  (first | (refine Go.Flo.fw_calm rfl ?_ (fun K hK => ?_); (first | exact Go.Mix.wanted_none rfl | exact Go.Mix.wanted_tt rfl rfl rfl | exact Go.Mix.wanted_ff rfl rfl rfl); go_big_quiet_op; refine hK _ ?_; clear hK K) | (refine Go.Flo.fw_skip ?_ (fun K hK => ?_); (first | exact Go.Mix.wanted_tf rfl rfl rfl | exact Go.Mix.wanted_ft rfl rfl rfl); go_simp; refine hK _ ?_; clear hK K) | (refine Go.Flo.fw_any rfl ?_ (fun K hK => ?_); (first | exact Go.Mix.wanted_none rfl | exact Go.Mix.wanted_tt rfl rfl rfl | exact Go.Mix.wanted_ff rfl rfl rfl); go_simp; (try (go_ints; try go_simp)); refine hK _ ?_; clear hK K))
  refine Go.Flo.fw_loud rfl ?_ rfl (by simp) (fun wv hwv hav K hK => ?_) (fun v hv K hK => ?_)
  · (first | exact Go.Mix.wanted_none rfl | exact Go.Mix.wanted_tt rfl rfl rfl | exact Go.Mix.wanted_ff rfl rfl rfl)
  · obtain ⟨iv, rfl⟩ := hwv
    have hbv := HW.out iv
    (first | go_big_op | go_simp)
    go_at_call 59
    refine (rBdot_any a l a2 a3 a4 _ HA.out HL.out glo ghi mlo mhi).mono ?_
    rintro e w' ⟨rfl, hb⟩
    rw [← HF.out]
    exact hK _ _ (Go.Flo.owes_is _ rfl hb)
  obtain rfl := hv.is
  go_simp
  refine hK _ ?_
  clear hK K hv
  (first | (refine Go.Flo.fw_calm rfl ?_ (fun K hK => ?_); (first | exact Go.Mix.wanted_none rfl | exact Go.Mix.wanted_tt rfl rfl rfl | exact Go.Mix.wanted_ff rfl rfl rfl); go_big_quiet_op; refine hK _ ?_; clear hK K) | (refine Go.Flo.fw_skip ?_ (fun K hK => ?_); (first | exact Go.Mix.wanted_tf rfl rfl rfl | exact Go.Mix.wanted_ft rfl rfl rfl); go_simp; refine hK _ ?_; clear hK K) | (refine Go.Flo.fw_any rfl ?_ (fun K hK => ?_); (first | exact Go.Mix.wanted_none rfl | exact Go.Mix.wanted_tt rfl rfl rfl | exact Go.Mix.wanted_ff rfl rfl rfl); go_simp; (try (go_ints; try go_simp)); refine hK _ ?_; clear hK K))
  (first | (refine Go.Flo.fw_calm rfl ?_ (fun K hK => ?_); (first | exact Go.Mix.wanted_none rfl | exact Go.Mix.wanted_tt rfl rfl rfl | exact Go.Mix.wanted_ff rfl rfl rfl); go_big_quiet_op; refine hK _ ?_; clear hK K) | (refine Go.Flo.fw_skip ?_ (fun K hK => ?_); (first | exact Go.Mix.wanted_tf rfl rfl rfl | exact Go.Mix.wanted_ft rfl rfl rfl); go_simp; refine hK _ ?_; clear hK K) | (refine Go.Flo.fw_any rfl ?_ (fun K hK => ?_); (first | exact Go.Mix.wanted_none rfl | exact Go.Mix.wanted_tt rfl rfl rfl | exact Go.Mix.wanted_ff rfl rfl rfl); go_simp; (try (go_ints; try go_simp)); refine hK _ ?_; clear hK K))
  (refine Go.Flo.fw_calm rfl ?_ (fun K hK => ?_); (first | exact Go.Mix.wanted_none rfl | exact Go.Mix.wanted_tt rfl rfl rfl | exact Go.Mix.wanted_ff rfl rfl rfl); refine Go.Flo.quiet_load_row 23 _ rfl _ rfl _ #[.int .i32 (a 0), .int .i32 (a 1), .int .i32 (a 2)] _ (by rintro _ ⟨i, rfl⟩; exact ((HW.out i).block _ l0).trans b0) Try.underlying23 rfl size_vc ?_; go_simp; refine hK _ ?_; clear hK K)
  (refine Go.Flo.fw_calm rfl ?_ (fun K hK => ?_); (first | exact Go.Mix.wanted_none rfl | exact Go.Mix.wanted_tt rfl rfl rfl | exact Go.Mix.wanted_ff rfl rfl rfl); refine Go.Flo.quiet_load_row 23 _ rfl _ rfl _ #[.int .i32 (l 0), .int .i32 (l 1), .int .i32 (l 2)] _ (by rintro _ ⟨i, rfl⟩; exact ((HW.out i).block _ l1).trans b1) Try.underlying23 rfl size_vc ?_; go_simp; refine hK _ ?_; clear hK K)
  (first | (refine Go.Flo.fw_calm rfl ?_ (fun K hK => ?_); (first | exact Go.Mix.wanted_none rfl | exact Go.Mix.wanted_tt rfl rfl rfl | exact Go.Mix.wanted_ff rfl rfl rfl); go_big_quiet_op; refine hK _ ?_; clear hK K) | (refine Go.Flo.fw_skip ?_ (fun K hK => ?_); (first | exact Go.Mix.wanted_tf rfl rfl rfl | exact Go.Mix.wanted_ft rfl rfl rfl); go_simp; refine hK _ ?_; clear hK K) | (refine Go.Flo.fw_any rfl ?_ (fun K hK => ?_); (first | exact Go.Mix.wanted_none rfl | exact Go.Mix.wanted_tt rfl rfl rfl | exact Go.Mix.wanted_ff rfl rfl rfl); go_simp; (try (go_ints; try go_simp)); refine hK _ ?_; clear hK K))
  (first | (refine Go.Flo.fw_calm rfl ?_ (fun K hK => ?_); (first | exact Go.Mix.wanted_none rfl | exact Go.Mix.wanted_tt rfl rfl rfl | exact Go.Mix.wanted_ff rfl rfl rfl); go_big_quiet_op; refine hK _ ?_; clear hK K) | (refine Go.Flo.fw_skip ?_ (fun K hK => ?_); (first | exact Go.Mix.wanted_tf rfl rfl rfl | exact Go.Mix.wanted_ft rfl rfl rfl); go_simp; refine hK _ ?_; clear hK K) | (refine Go.Flo.fw_any rfl ?_ (fun K hK => ?_); (first | exact Go.Mix.wanted_none rfl | exact Go.Mix.wanted_tt rfl rfl rfl | exact Go.Mix.wanted_ff rfl rfl rfl); go_simp; (try (go_ints; try go_simp)); refine hK _ ?_; clear hK K))
  (first | (refine Go.Flo.fw_calm rfl ?_ (fun K hK => ?_); (first | exact Go.Mix.wanted_none rfl | exact Go.Mix.wanted_tt rfl rfl rfl | exact Go.Mix.wanted_ff rfl rfl rfl); go_big_quiet_op; refine hK _ ?_; clear hK K) | (refine Go.Flo.fw_skip ?_ (fun K hK => ?_); (first | exact Go.Mix.wanted_tf rfl rfl rfl | exact Go.Mix.wanted_ft rfl rfl rfl); go_simp; refine hK _ ?_; clear hK K) | (refine Go.Flo.fw_any rfl ?_ (fun K hK => ?_); (first | exact Go.Mix.wanted_none rfl | exact Go.Mix.wanted_tt rfl rfl rfl | exact Go.Mix.wanted_ff rfl rfl rfl); go_simp; (try (go_ints; try go_simp)); refine hK _ ?_; clear hK K))
  refine Go.Flo.fw_loud rfl ?_ rfl (by simp) (fun wv hwv hav K hK => ?_) (fun v hv K hK => ?_)
  · (first | exact Go.Mix.wanted_none rfl | exact Go.Mix.wanted_tt rfl rfl rfl | exact Go.Mix.wanted_ff rfl rfl rfl)
  · obtain ⟨iv, rfl⟩ := hwv
    have hbv := HW.out iv
    (first | go_big_op | go_simp)
    go_at_call 58
    refine (Bdot_first a l a2 a3 a4 _).mono ?_
    rintro e w' ⟨rfl, hb⟩
    exact hK _ _ (Go.Flo.owes_is _ rfl hb)
  obtain rfl := hv.is
  go_simp
  refine hK _ ?_
  clear hK K hv
  (repeat (first | (refine Go.Flo.fw_calm rfl ?_ (fun K hK => ?_); (first | exact Go.Mix.wanted_none rfl | exact Go.Mix.wanted_tt rfl rfl rfl | exact Go.Mix.wanted_ff rfl rfl rfl); go_big_quiet_op; refine hK _ ?_; clear hK K) | (refine Go.Flo.fw_skip ?_ (fun K hK => ?_); (first | exact Go.Mix.wanted_tf rfl rfl rfl | exact Go.Mix.wanted_ft rfl rfl rfl); go_simp; refine hK _ ?_; clear hK K) | (refine Go.Flo.fw_any rfl ?_ (fun K hK => ?_); (first | exact Go.Mix.wanted_none rfl | exact Go.Mix.wanted_tt rfl rfl rfl | exact Go.Mix.wanted_ff rfl rfl rfl); go_simp; (try (go_ints; try go_simp)); refine hK _ ?_; clear hK K)))
  refine Go.Flo.fw_nil ?_
  intro w9 hww9 hfw9 huw9
  refine Go.Flo.tw_nil ?_
  obtain ⟨iend, hiend⟩ := hww9
  have hbw9 := HW.out iend
  rw [← hiend] at hbw9
  clear hiend iend huw9
  have HB := Lib.hid (HS.out.step hbw9)
  clear hfw9 HJ HW hne hbw9 b0 b1 b2
  go_wp2_with fail
  go_ret
  exact ⟨rfl, HB.out.be⟩
end Go.Proofs.Ytinaimacocgemaa
