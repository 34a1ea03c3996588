/- SteerTells. -/
import Derived.Test.YtinaimacocgemaaDoorLaw23k
import Derived.Test.YtinaimacocgemaaDoorBs2
import Derived.Deep.DeepCutAuto
import Derived.Deep.CutRange
namespace Go.Proofs.YtinaimacocgemaaDoor
open Go.RowKit Go.Own Bs
set_option linter.unusedVariables false
set_option linter.unusedSimpArgs false
theorem size_tc : (Tryd.prog.info? 34).map (·.size) = some 3 := by kernel_rfl
set_option maxRecDepth 100000 in
set_option maxHeartbeats 8000000 in
theorem walk_SteerTells (x0 y0 z0 a1 a2 a3 : Int) (z4 : List Int) (w : World) (wx0 : (Lit.int .i32 x0).wf = true) (wy0 : (Lit.int .i32 y0).wf = true) (wz0 : (Lit.int .i32 z0).wf = true) (w1 : (Lit.int .i32 a1).wf = true) (w2 : (Lit.int .i32 a2).wf = true) (w3 : (Lit.int .i32 a3).wf = true) (l4 : z4.length = 4) (w4 : ∀ x ∈ z4, (Lit.int .i32 x).wf = true) (hG : WAx w) :
    Calls Tryd.prog 4 #[.agg #[.int .i32 x0, .int .i32 y0, .int .i32 z0], .int .i32 a1, .int .i32 a2, .int .i32 a3, .agg (z4.map (Value.int .i32)).toArray] w fun e w' => e = .returned (.bool true) ∧ Below w.heap.size w w' := by
  obtain ⟨a, ha3, rfl, rfl, rfl⟩ := vec_of wx0 wy0 wz0
  obtain ⟨c, hc4, e4⟩ := list4 l4 w4
  rw [e4]
  obtain ⟨mlo, mhi⟩ := bounds_i32 w1
  obtain ⟨llo, lhi⟩ := bounds_i32 w2
  obtain ⟨dlo, dhi⟩ := bounds_i32 w3
  have HA3 := Lib.hid ha3
  have HC4 := Lib.hid hc4
  have hw0 := hG.lt
  clear wx0 wy0 wz0 w1 w2 w3 l4 w4 e4 ha3 hc4 z4
  have hz := zero_vcS
  have hz2 := zero_qc
  have hz3 : ∀ w, (zeroValue 34).run Tryd.prog w = .ok (.agg #[.int .i64 0, .int .i64 0, .int .i64 0]) w := fun w => by kernel_rfl
  have hz4 : ∀ w, (zeroValue 35).run Tryd.prog w = .ok (.agg #[.int .i64 0, .int .i64 0, .int .i64 0]) w := fun w => by kernel_rfl
  have hq := ((Bq.nil w).new #[.int .i32 (a 0), .int .i32 (a 1), .int .i32 (a 2)] 23).new #[.int .i32 (c 0), .int .i32 (c 1), .int .i32 (c 2), .int .i32 (c 3)] 27
  have hg := wax_bel hG (show Below w.heap.size w ((w.alloc (.cells #[.int .i32 (a 0), .int .i32 (a 1), .int .i32 (a 2)] 23)).alloc (.cells #[.int .i32 (c 0), .int .i32 (c 1), .int .i32 (c 2), .int .i32 (c 3)] 27)) by repeat' (first | (with_reducible exact Below.refl _ _) | (with_reducible assumption) | (with_reducible refine Below.setCell ?_ ?_ _) | (with_reducible refine Below.alloc ?_ ?_ _) | (with_reducible refine Below.drew ?_) | (with_reducible refine Below.drawsN ?_ _) | go_size))
  go_enter Tryd.func4, Tryd.ntmps4
  go_upto_region 1 with fail
  obtain ⟨w1, hw1⟩ : ∃ w1, w1 = (w.alloc (.cells #[.int .i32 (a 0), .int .i32 (a 1), .int .i32 (a 2)] 23)).alloc (.cells #[.int .i32 (c 0), .int .i32 (c 1), .int .i32 (c 2), .int .i32 (c 3)] 27) := ⟨_, rfl⟩
  simp only [World.size_alloc] at hq
  rw [← hw1] at hq hg ⊢
  obtain ⟨g9, hg9⟩ : ∃ g, g = w.heap.size + 1 := ⟨_, rfl⟩
  rw [← hg9] at hq ⊢
  obtain ⟨g5, hg5⟩ : ∃ g, g = w.heap.size := ⟨_, rfl⟩
  rw [← hg5] at hq
  rw [show (Value.pointer (some ⟨w.heap.size, 0, none⟩)) = .pointer (some ⟨g5, 0, none⟩) by rw [hg5]]
  have HQ := Lib.hid (show Bq w w1 [(g5, #[.int .i32 (a 0), .int .i32 (a 1), .int .i32 (a 2)], 23), (g9, #[.int .i32 (c 0), .int .i32 (c 1), .int .i32 (c 2), .int .i32 (c 3)], 27)] from hq)
  have HG := Lib.hid hg
  clear hq hw1 hg5 hg9 hg hG
  go_wp2_with fail
  go_at_call 6
  refine (awake23 _).mono ?_
  rintro e w2 ⟨rfl, hb⟩
  have HQ2 := Lib.hid (HQ.out.step hb)
  have HG2 := Lib.hid (wax_bel HG.out hb)
  clear hb HQ HG
  go_upto_region 5 with fail
  have hq := HQ2.out.new #[.int .i64 (smT c 0 0 0), .int .i64 (smT c 0 0 1), .int .i64 (smT c 0 0 2)] 34
  have hg := wax_bel HG2.out (show Below w2.heap.size w2 (w2.alloc (.cells #[.int .i64 (smT c 0 0 0), .int .i64 (smT c 0 0 1), .int .i64 (smT c 0 0 2)] 34)) by repeat' (first | (with_reducible exact Below.refl _ _) | (with_reducible assumption) | (with_reducible refine Below.setCell ?_ ?_ _) | (with_reducible refine Below.alloc ?_ ?_ _) | (with_reducible refine Below.drew ?_) | (with_reducible refine Below.drawsN ?_ _) | go_size))
  rw [show w2.alloc (.cells #[.int .i64 0, .int .i64 0, .int .i64 0] 34) = w2.alloc (.cells #[.int .i64 (smT c 0 0 0), .int .i64 (smT c 0 0 1), .int .i64 (smT c 0 0 2)] 34) from rfl]
  obtain ⟨w3, hw3⟩ : ∃ w1, w1 = w2.alloc (.cells #[.int .i64 (smT c 0 0 0), .int .i64 (smT c 0 0 1), .int .i64 (smT c 0 0 2)] 34) := ⟨_, rfl⟩
  rw [← hw3] at hq hg ⊢
  obtain ⟨g12, hg12⟩ : ∃ g, g = w2.heap.size := ⟨_, rfl⟩
  rw [← hg12] at hq ⊢
  have HQ3 := Lib.hid (show Bq w w3 [(g5, #[.int .i32 (a 0), .int .i32 (a 1), .int .i32 (a 2)], 23), (g9, #[.int .i32 (c 0), .int .i32 (c 1), .int .i32 (c 2), .int .i32 (c 3)], 27), (g12, #[.int .i64 (smT c 0 0 0), .int .i64 (smT c 0 0 1), .int .i64 (smT c 0 0 2)], 34)] from hq)
  have HG3 := Lib.hid hg
  clear hw3 hg12 hg hq HQ2 HG2
  have b5 := HQ3.out.of 0 rfl
  go_wp2_with ((with_reducible show wpList _ _ _ (_ :: _) _ _); refine wpList_load_row rfl 23 _ rfl _ rfl _ _ _ _ b5 Tryd.underlying23 rfl (by exact size_vc) ?_; (try go_simp))
  refine (Pulses_v a a3 _ dlo dhi).mono ?_
  rintro e w4 ⟨rfl, hb⟩
  have HQ4 := Lib.hid (HQ3.out.step hb)
  have HG4 := Lib.hid (wax_bel HG3.out hb)
  clear hb HQ3 HG3 b5
  go_upto_region 6 with ((with_reducible show wpList _ _ _ (_ :: _) _ _); refine wpList_store_row rfl 35 _ _ rfl _ _ rfl rfl _ _ (heap_alloc_new _ _) (by exact size_ic) (by rfl) (by simp [Value.oneCell']) ?_; rw [World.setRow_alloc_new])
  have hq := HQ4.out.new #[.int .i64 (sgF a a3 0), .int .i64 (sgF a a3 1), .int .i64 (sgF a a3 2)] 35
  have hg := wax_bel HG4.out (show Below w4.heap.size w4 (w4.alloc (.cells #[.int .i64 (sgF a a3 0), .int .i64 (sgF a a3 1), .int .i64 (sgF a a3 2)] 35)) by repeat' (first | (with_reducible exact Below.refl _ _) | (with_reducible assumption) | (with_reducible refine Below.setCell ?_ ?_ _) | (with_reducible refine Below.alloc ?_ ?_ _) | (with_reducible refine Below.drew ?_) | (with_reducible refine Below.drawsN ?_ _) | go_size))
  obtain ⟨w5, hw5⟩ : ∃ w1, w1 = w4.alloc (.cells #[.int .i64 (sgF a a3 0), .int .i64 (sgF a a3 1), .int .i64 (sgF a a3 2)] 35) := ⟨_, rfl⟩
  rw [← hw5] at hq hg ⊢
  obtain ⟨g13, hg13⟩ : ∃ g, g = w4.heap.size := ⟨_, rfl⟩
  rw [← hg13] at hq ⊢
  have HQ5 := Lib.hid (show Bq w w5 [(g5, #[.int .i32 (a 0), .int .i32 (a 1), .int .i32 (a 2)], 23), (g9, #[.int .i32 (c 0), .int .i32 (c 1), .int .i32 (c 2), .int .i32 (c 3)], 27), (g12, #[.int .i64 (smT c 0 0 0), .int .i64 (smT c 0 0 1), .int .i64 (smT c 0 0 2)], 34), (g13, #[.int .i64 (sgF a a3 0), .int .i64 (sgF a a3 1), .int .i64 (sgF a a3 2)], 35)] from hq)
  have HG5 := Lib.hid hg
  clear hw5 hg13 hg hq HQ4 HG4
  have b5 := HQ5.out.of 0 rfl
  go_wp2_with ((with_reducible show wpList _ _ _ (_ :: _) _ _); refine wpList_load_row rfl 23 _ rfl _ rfl _ _ _ _ b5 Tryd.underlying23 rfl (by exact size_vc) ?_; (try go_simp))
  clear b5
  go_loopw [11, 32] (fun q v wr => ∃ k : Nat, k ≤ 3 ∧ v = .int .i64 (k : Nat) ∧ q = .bool (cb a a1 k) ∧ Bq w wr [(g5, #[.int .i32 (a 0), .int .i32 (a 1), .int .i32 (a 2)], 23), (g9, #[.int .i32 (c 0), .int .i32 (c 1), .int .i32 (c 2), .int .i32 (c 3)], 27), (g12, #[.int .i64 (smT c k 0 0), .int .i64 (smT c k 0 1), .int .i64 (smT c k 0 2)], 34), (g13, #[.int .i64 (sgF a a3 0), .int .i64 (sgF a a3 1), .int .i64 (sgF a a3 2)], 35)] ∧ WAx wr) (fun _ v _ => 3 - (intOf v).toNat)
  case atStart => exact ⟨0, Nat.zero_le _, rfl, rfl, HQ5.out, HG5.out⟩
  case round =>
    clear HQ5 HG5
    obtain ⟨k, hk, rfl, rfl, hq, hg⟩ := hrel
    have HQ := Lib.hid hq
    have HG := Lib.hid hg
    clear hq hg
    by_cases h3 : k < 3
    · have hix := v_index a h3
      obtain ⟨xlo, xhi⟩ := HA3.out k h3
      obtain ⟨q, hqq⟩ : ∃ q, q = cb a a1 k := ⟨_, rfl⟩
      have hq1 : cb a a1 (k + 1) = (q && decide (mag (a k) ≤ a1)) := by rw [hqq]; rfl
      rw [← hqq]
      obtain ⟨D, hD⟩ : ∃ D, D = max a3 0 := ⟨_, rfl⟩
      have hs1 : sgF a a3 k = sgn (a k) D := by rw [hD]; rfl
      have hmD := fun (w : World) => run_maxJ (P := Tryd.prog) #[21, 21] 21 .i32 a3 0 w
      rw [← hD] at hmD
      have hD0 : 0 ≤ D := by omega
      have hD1 : D ≤ 2147483647 := by omega
      obtain ⟨x, hx⟩ : ∃ x, x = a k := ⟨_, rfl⟩
      rw [← hx] at hix hq1 hs1 xlo xhi
      have HQ1 := Lib.hid hq1
      have c13 := cell_of_row _ _ k _ _ _ (HQ.out.of 3 rfl)
      rw [sx_at _ h3, hs1] at c13
      obtain ⟨s, hs⟩ : ∃ s, s = sgn x D := ⟨_, rfl⟩
      rw [← hs] at c13
      have HS := Lib.hid hs
      clear hqq hq1 hs1 hs hx hD
      go_upto_region 10 with fail
      clear hix
      obtain ⟨M, hM⟩ : ∃ M, M = mag x := ⟨_, rfl⟩
      have hms := mag_satT x xlo xhi
      have hmb := mag_nnT x xlo xhi
      rw [← hM] at hms hmb
      rw [← hM] at HQ1
      have hmx := fun (w : World) => run_maxJ (P := Tryd.prog) #[2, 2] 2 .i64 x (-x) w
      obtain ⟨y, hy⟩ : ∃ y, y = max x (-x) := ⟨_, rfl⟩
      rw [← hy] at hms hmx
      have hyb : -9223372036854775808 ≤ y ∧ y ≤ 9223372036854775807 := by omega
      have HRS := Lib.hid (fun w => rSat_any y w hyb.1 hyb.2)
      have HMS := Lib.hid hms
      clear hy hms hM hyb
      go_cut [11] (fun q wx => q = .bool (cb a a1 (k + 1)) ∧ wx = wr)
      case first =>
        cases q
        · go_wp2
          go_meet
          case rel => exact ⟨by rw [HQ1.out]; rfl, rfl⟩
        · by_cases hm : M ≤ a1
          · go_wp2_with (go_at_call 13; refine (HRS.out _).mono ?_; rintro e w9 ⟨rfl, rfl⟩; rw [HMS.out])
            go_meet
            case rel => exact ⟨by rw [HQ1.out]; simp [hm], rfl⟩
          · go_wp2_with (go_at_call 13; refine (HRS.out _).mono ?_; rintro e w9 ⟨rfl, rfl⟩; rw [HMS.out])
            go_meet
            case rel => exact ⟨by rw [HQ1.out]; simp [hm], rfl⟩
      case rest =>
      obtain ⟨rfl, rfl⟩ := hcut
      clear HQ1 HRS HMS hmx hmb M y
      go_upto_region 12 with fail
      clear hmD
      go_cut [95] (fun q wx => q = .bool false ∧ wx = wc)
      case first =>
        have hs := HS.out
        clear HS
        rcases sgnT x D hD0 with ⟨d1, d2, d3⟩ | ⟨d1, d2, d3⟩ | ⟨d1, d2, d3⟩
        all_goals
          rw [d3] at hs
          subst hs
          clear d3
          go_wp2
          go_meet
          case rel => exact ⟨rfl, rfl⟩
      case rest =>
      obtain ⟨rfl, rfl⟩ := hcut
      clear HS c13 s

      go_upto_region 14 with fail
      have b9 := HQ.out.of 1 rfl
      go_wp2_with ((with_reducible show wpList _ _ _ (_ :: _) _ _); refine wpList_load_row rfl 27 _ rfl _ rfl _ _ _ _ b9 Tryd.underlying27 rfl (by exact size_qc) ?_; (try go_simp))
      clear b9
      go_loopw [97] (fun v wr => ∃ n : Nat, n ≤ 4 ∧ v = .int .i64 (n : Nat) ∧ Bq w wr [(g5, #[.int .i32 (a 0), .int .i32 (a 1), .int .i32 (a 2)], 23), (g9, #[.int .i32 (c 0), .int .i32 (c 1), .int .i32 (c 2), .int .i32 (c 3)], 27), (g12, #[.int .i64 (smT c k n 0), .int .i64 (smT c k n 1), .int .i64 (smT c k n 2)], 34), (g13, #[.int .i64 (sgF a a3 0), .int .i64 (sgF a a3 1), .int .i64 (sgF a a3 2)], 35)] ∧ WAx wr) (fun v _ => 4 - (intOf v).toNat)
      case atStart => exact ⟨0, Nat.zero_le _, rfl, HQ.out, HG.out⟩
      case round =>
        clear HQ HG
        obtain ⟨n, hn, rfl, hq, hg⟩ := hrel
        have HQ := Lib.hid hq
        have HG := Lib.hid hg
        clear hq hg
        by_cases h4 : n < 4
        · have hix := q_index c h4
          obtain ⟨zlo, zhi⟩ := HC4.out n h4
          have hm := wa_mul n k h4 h3 zlo zhi
          have hm2 := mk_sat c n k
          obtain ⟨z, hzz⟩ : ∃ z, z = c n := ⟨_, rfl⟩
          rw [← hzz] at hix zlo zhi hm hm2
          have hsx := s_index (wa n) h3
          have HSN := Lib.hid (fun w => Signs_any n w h4)
          have hsb := sq_bd c k n
          obtain ⟨S, hS⟩ : ∃ S, S = sq c k n := ⟨_, rfl⟩
          rw [← hS] at hsb
          have hsb2 : -8589934592 ≤ S ∧ S ≤ 8589934592 := by omega
          obtain ⟨M, hM⟩ : ∃ M, M = mkF c n k := ⟨_, rfl⟩
          have hmk := mk_bd c n k
          rw [← hM] at hm2 hmk
          have HRS := Lib.hid (fun w => rSat_any (wa n k * z) w (by omega) (by omega))
          have HM2 := Lib.hid hm2
          have hst : sq c k (n + 1) = S + M := by rw [hS, hM]; rfl
          have HST := Lib.hid hst
          have HSE := Lib.hid hS.symm
          have c12 := cell_of_row _ _ k _ _ _ (HQ.out.of 2 rfl)
          rw [sx_at _ h3, smT_at, ← hS] at c12
          have l12 := box_lt (HQ.out.of 2 rfl)
          clear hzz hsb hS hM hst hm2
          go_upto_region 17 with fail
          clear hix
          obtain ⟨w6, hw6⟩ : ∃ w6, w6 = wr := ⟨_, rfl⟩
          have HQ6 := Lib.hid HQ.out
          have HG6 := Lib.hid HG.out
          rw [← hw6] at HQ6 HG6 c12 l12 ⊢
          clear hw6 HQ HG
          obtain ⟨I, W, hne, hWI, hIW⟩ := Go.Mix.family (fun v => Below w6.heap.size w6 v) (Below.refl _ _)
          have HJ := Lib.hid hIW
          have HW := Lib.hid hWI
          clear hWI hIW
          refine Go.Flo3.wp_region (fun w' => ∃ i, w' = W i) 13 [Go.Flo.Spec.is (.agg #[.int .i64 (wa n 0), .int .i64 (wa n 1), .int .i64 (wa n 2)]), Go.Flo.Spec.is (.int .i32 M)] (by kernel_rfl) (by kernel_rfl) (by decide) (by rintro _ w' ⟨i, rfl⟩ hb; exact HJ.out _ ((HW.out i).trans (hb.mono (HW.out i).size))) (HJ.out _ (Below.refl _ _).drew) ?_
          simp only [Go.Flo.pair, Go.Mix.calm, List.take, List.drop, if_true, Bool.false_eq_true, if_false, Nat.reduceAdd, Nat.reduceSub]
          have y12 := fun i => ((HW.out i).cell (p := ⟨g12, k, none⟩) l12).trans c12
          (first | (refine Go.Flo.fw_calm rfl ?_ (fun K hK => ?_); (first | exact Go.Mix.wanted_none rfl | exact Go.Mix.wanted_tt rfl rfl rfl | exact Go.Mix.wanted_ff rfl rfl rfl); go_big_quiet_op; refine hK _ ?_; clear hK K) | (refine Go.Flo.fw_skip ?_ (fun K hK => ?_); (first | exact Go.Mix.wanted_tf rfl rfl rfl | exact Go.Mix.wanted_ft rfl rfl rfl); go_simp; refine hK _ ?_; clear hK K) | (refine Go.Flo.fw_any rfl ?_ (fun K hK => ?_); (first | exact Go.Mix.wanted_none rfl | exact Go.Mix.wanted_tt rfl rfl rfl | exact Go.Mix.wanted_ff rfl rfl rfl); go_simp; (try (go_ints; try go_simp)); refine hK _ ?_; clear hK K))
          (first | (refine Go.Flo.fw_calm rfl ?_ (fun K hK => ?_); (first | exact Go.Mix.wanted_none rfl | exact Go.Mix.wanted_tt rfl rfl rfl | exact Go.Mix.wanted_ff rfl rfl rfl); go_big_quiet_op; refine hK _ ?_; clear hK K) | (refine Go.Flo.fw_skip ?_ (fun K hK => ?_); (first | exact Go.Mix.wanted_tf rfl rfl rfl | exact Go.Mix.wanted_ft rfl rfl rfl); go_simp; refine hK _ ?_; clear hK K) | (refine Go.Flo.fw_any rfl ?_ (fun K hK => ?_); (first | exact Go.Mix.wanted_none rfl | exact Go.Mix.wanted_tt rfl rfl rfl | exact Go.Mix.wanted_ff rfl rfl rfl); go_simp; (try (go_ints; try go_simp)); refine hK _ ?_; clear hK K))
          (first | (refine Go.Flo.fw_calm rfl ?_ (fun K hK => ?_); (first | exact Go.Mix.wanted_none rfl | exact Go.Mix.wanted_tt rfl rfl rfl | exact Go.Mix.wanted_ff rfl rfl rfl); go_big_quiet_op; refine hK _ ?_; clear hK K) | (refine Go.Flo.fw_skip ?_ (fun K hK => ?_); (first | exact Go.Mix.wanted_tf rfl rfl rfl | exact Go.Mix.wanted_ft rfl rfl rfl); go_simp; refine hK _ ?_; clear hK K) | (refine Go.Flo.fw_any rfl ?_ (fun K hK => ?_); (first | exact Go.Mix.wanted_none rfl | exact Go.Mix.wanted_tt rfl rfl rfl | exact Go.Mix.wanted_ff rfl rfl rfl); go_simp; (try (go_ints; try go_simp)); refine hK _ ?_; clear hK K))
          (first | (refine Go.Flo.fw_calm rfl ?_ (fun K hK => ?_); (first | exact Go.Mix.wanted_none rfl | exact Go.Mix.wanted_tt rfl rfl rfl | exact Go.Mix.wanted_ff rfl rfl rfl); go_big_quiet_op; refine hK _ ?_; clear hK K) | (refine Go.Flo.fw_skip ?_ (fun K hK => ?_); (first | exact Go.Mix.wanted_tf rfl rfl rfl | exact Go.Mix.wanted_ft rfl rfl rfl); go_simp; refine hK _ ?_; clear hK K) | (refine Go.Flo.fw_any rfl ?_ (fun K hK => ?_); (first | exact Go.Mix.wanted_none rfl | exact Go.Mix.wanted_tt rfl rfl rfl | exact Go.Mix.wanted_ff rfl rfl rfl); go_simp; (try (go_ints; try go_simp)); refine hK _ ?_; clear hK K))
          refine Go.Flo.fw_loud rfl ?_ rfl (by simp) (fun wv hwv hav K hK => ?_) (fun v hv K hK => ?_)
          · (first | exact Go.Mix.wanted_none rfl | exact Go.Mix.wanted_tt rfl rfl rfl | exact Go.Mix.wanted_ff rfl rfl rfl)
          · obtain ⟨iv, rfl⟩ := hwv
            have hbv := HW.out iv
            (first | go_big_op | go_simp)
            go_at_call 14
            refine (HSN.out _).mono ?_
            rintro e w' ⟨rfl, hb⟩
            exact hK _ _ (Go.Flo.owes_is _ rfl hb)
          obtain rfl := hv.is
          go_simp
          refine hK _ ?_
          clear hK K hv
          (first | (refine Go.Flo.fw_calm rfl ?_ (fun K hK => ?_); (first | exact Go.Mix.wanted_none rfl | exact Go.Mix.wanted_tt rfl rfl rfl | exact Go.Mix.wanted_ff rfl rfl rfl); go_big_quiet_op; refine hK _ ?_; clear hK K) | (refine Go.Flo.fw_skip ?_ (fun K hK => ?_); (first | exact Go.Mix.wanted_tf rfl rfl rfl | exact Go.Mix.wanted_ft rfl rfl rfl); go_simp; refine hK _ ?_; clear hK K) | (refine Go.Flo.fw_any rfl ?_ (fun K hK => ?_); (first | exact Go.Mix.wanted_none rfl | exact Go.Mix.wanted_tt rfl rfl rfl | exact Go.Mix.wanted_ff rfl rfl rfl); go_simp; (try (go_ints; try go_simp)); refine hK _ ?_; clear hK K))
          (first | (refine Go.Flo.fw_calm rfl ?_ (fun K hK => ?_); (first | exact Go.Mix.wanted_none rfl | exact Go.Mix.wanted_tt rfl rfl rfl | exact Go.Mix.wanted_ff rfl rfl rfl); go_big_quiet_op; refine hK _ ?_; clear hK K) | (refine Go.Flo.fw_skip ?_ (fun K hK => ?_); (first | exact Go.Mix.wanted_tf rfl rfl rfl | exact Go.Mix.wanted_ft rfl rfl rfl); go_simp; refine hK _ ?_; clear hK K) | (refine Go.Flo.fw_any rfl ?_ (fun K hK => ?_); (first | exact Go.Mix.wanted_none rfl | exact Go.Mix.wanted_tt rfl rfl rfl | exact Go.Mix.wanted_ff rfl rfl rfl); go_simp; (try (go_ints; try go_simp)); refine hK _ ?_; clear hK K))
          (first | (refine Go.Flo.fw_calm rfl ?_ (fun K hK => ?_); (first | exact Go.Mix.wanted_none rfl | exact Go.Mix.wanted_tt rfl rfl rfl | exact Go.Mix.wanted_ff rfl rfl rfl); go_big_quiet_op; refine hK _ ?_; clear hK K) | (refine Go.Flo.fw_skip ?_ (fun K hK => ?_); (first | exact Go.Mix.wanted_tf rfl rfl rfl | exact Go.Mix.wanted_ft rfl rfl rfl); go_simp; refine hK _ ?_; clear hK K) | (refine Go.Flo.fw_any rfl ?_ (fun K hK => ?_); (first | exact Go.Mix.wanted_none rfl | exact Go.Mix.wanted_tt rfl rfl rfl | exact Go.Mix.wanted_ff rfl rfl rfl); go_simp; (try (go_ints; try go_simp)); refine hK _ ?_; clear hK K))
          (first | (refine Go.Flo.fw_calm rfl ?_ (fun K hK => ?_); (first | exact Go.Mix.wanted_none rfl | exact Go.Mix.wanted_tt rfl rfl rfl | exact Go.Mix.wanted_ff rfl rfl rfl); go_big_quiet_op; refine hK _ ?_; clear hK K) | (refine Go.Flo.fw_skip ?_ (fun K hK => ?_); (first | exact Go.Mix.wanted_tf rfl rfl rfl | exact Go.Mix.wanted_ft rfl rfl rfl); go_simp; refine hK _ ?_; clear hK K) | (refine Go.Flo.fw_any rfl ?_ (fun K hK => ?_); (first | exact Go.Mix.wanted_none rfl | exact Go.Mix.wanted_tt rfl rfl rfl | exact Go.Mix.wanted_ff rfl rfl rfl); go_simp; (try (go_ints; try go_simp)); refine hK _ ?_; clear hK K))
          (first | (refine Go.Flo.fw_calm rfl ?_ (fun K hK => ?_); (first | exact Go.Mix.wanted_none rfl | exact Go.Mix.wanted_tt rfl rfl rfl | exact Go.Mix.wanted_ff rfl rfl rfl); go_big_quiet_op; refine hK _ ?_; clear hK K) | (refine Go.Flo.fw_skip ?_ (fun K hK => ?_); (first | exact Go.Mix.wanted_tf rfl rfl rfl | exact Go.Mix.wanted_ft rfl rfl rfl); go_simp; refine hK _ ?_; clear hK K) | (refine Go.Flo.fw_any rfl ?_ (fun K hK => ?_); (first | exact Go.Mix.wanted_none rfl | exact Go.Mix.wanted_tt rfl rfl rfl | exact Go.Mix.wanted_ff rfl rfl rfl); go_simp; (try (go_ints; try go_simp)); refine hK _ ?_; clear hK K))
          refine Go.Flo.fw_loud rfl ?_ rfl (by simp) (fun wv hwv hav K hK => ?_) (fun v hv K hK => ?_)
          · (first | exact Go.Mix.wanted_none rfl | exact Go.Mix.wanted_tt rfl rfl rfl | exact Go.Mix.wanted_ff rfl rfl rfl)
          · obtain ⟨iv, rfl⟩ := hwv
            have hbv := HW.out iv
            (first | go_big_op | go_simp)
            go_at_call 13
            refine (HRS.out _).mono ?_
            rintro e w' ⟨rfl, rfl⟩
            rw [← HM2.out]
            exact hK _ _ (Go.Flo.owes_is _ rfl (Below.refl _ _))
          obtain rfl := hv.is
          go_simp
          refine hK _ ?_
          clear hK K hv
          (repeat (first | (refine Go.Flo.fw_calm rfl ?_ (fun K hK => ?_); (first | exact Go.Mix.wanted_none rfl | exact Go.Mix.wanted_tt rfl rfl rfl | exact Go.Mix.wanted_ff rfl rfl rfl); go_big_quiet_op; refine hK _ ?_; clear hK K) | (refine Go.Flo.fw_skip ?_ (fun K hK => ?_); (first | exact Go.Mix.wanted_tf rfl rfl rfl | exact Go.Mix.wanted_ft rfl rfl rfl); go_simp; refine hK _ ?_; clear hK K) | (refine Go.Flo.fw_any rfl ?_ (fun K hK => ?_); (first | exact Go.Mix.wanted_none rfl | exact Go.Mix.wanted_tt rfl rfl rfl | exact Go.Mix.wanted_ff rfl rfl rfl); go_simp; (try (go_ints; try go_simp)); refine hK _ ?_; clear hK K)))
          refine Go.Flo.fw_nil ?_
          intro wc hwwc hfwc huwc
          obtain ⟨iend, hiend⟩ := hwwc
          have hbwc := HW.out iend
          rw [← hiend] at hbwc
          clear hiend iend huwc
          clear y12
          have hqc := HQ6.out.step hbwc
          have hgc := wax_bel HG6.out hbwc
          have d12 := cell_of_row _ _ k _ _ _ (hqc.of 2 rfl)
          rw [show (#[.int .i64 (smT c k n 0), .int .i64 (smT c k n 1), .int .i64 (smT c k n 2)] : Array Value)[k]? = some (.int .i64 S) from by rw [sx_at _ h3, smT_at, HSE.out]] at d12
          have f12 := frozen_of_row _ _ k _ _ (hqc.of 2 rfl)
          have n12 : g12 ≠ 0 := by have := HQ6.out.low 2 rfl; omega
          have hv := hqc.set 2 rfl k (.int .i64 (S + M))
          rw [show (#[.int .i64 (smT c k n 0), .int .i64 (smT c k n 1), .int .i64 (smT c k n 2)] : Array Value).setIfInBounds k (.int .i64 (S + M)) = #[.int .i64 (smT c k (n + 1) 0), .int .i64 (smT c k (n + 1) 1), .int .i64 (smT c k (n + 1) 2)] from by rw [← HST.out]; exact smT_set c n h3] at hv
          have HV := Lib.hid hv
          have HG7 := Lib.hid (hgc.set n12 k (.int .i64 (S + M)))
          clear hfwc HJ HW hne hbwc c12 l12 hqc hgc hv n12 HQ6 HG6 hsx HSN HRS HM2
          clear W I
          refine ⟨fun _ => True, trivial, ?_⟩

          (repeat (first | (refine Go.Mix.walk_calm rfl ?_ (fun K hK => ?_); (first | exact Go.Mix.wanted_none rfl | exact Go.Mix.wanted_tt rfl rfl rfl | exact Go.Mix.wanted_ff rfl rfl rfl); go_big_quiet_op; refine hK _ ?_; clear hK K) | (refine Go.Mix.walk_skip ?_ (fun K hK => ?_); (first | exact Go.Mix.wanted_tf rfl rfl rfl | exact Go.Mix.wanted_ft rfl rfl rfl); go_simp; refine hK _ ?_; clear hK K) | (refine Go.Mix.walk_loud rfl ?_ (fun K hK => ?_); (first | exact Go.Mix.wanted_none rfl | exact Go.Mix.wanted_tt rfl rfl rfl | exact Go.Mix.wanted_ff rfl rfl rfl); (first | go_big_op | go_simp); (first | (refine hK _ _ trivial ?_; clear hK K) | (fail; (try dsimp only); refine hK _ _ trivial ?_; clear hK K))) | (refine Go.Mix.walk_step (fun K hK => ?_); go_simp; (try (go_ints; try go_simp)); refine hK _ _ ?_; clear hK K)))
          refine Go.Mix.walk_nil ?_
          clear d12 f12
          go_wp2_with fail
          go_roundw
          case rel => exact ⟨n + 1, by omega, by go_num, HV.out, HG7.out⟩
          case measure => simp [intOf]; omega
        · obtain rfl : n = 4 := by omega
          have hq := HQ.out
          rw [smT_next c h3] at hq
          have HQ2 := Lib.hid hq
          clear hn h4 hq HQ
          go_wp2
          go_roundw
          case rel => exact ⟨k + 1, by omega, by go_num, rfl, HQ2.out, HG.out⟩
          case measure => simp [intOf]; omega
    · obtain rfl : k = 3 := by omega
      clear hk h3
      rw [cb_all]
      have hsn := seen_eq (Fx.sums [a 0 * a 0, a 1 * a 1, a 2 * a 2]) a2 (sums_nn _ _ _) lhi
      have HCV := Lib.hid (fun w => Calm_v a a1 w HA3.out)
      have HSV := Lib.hid (fun w => Seen_v a a2 w HA3.out)
      have HDT := Lib.hid (fun w => rDot_any (a 0) (a 1) (a 2) (a 0) (a 1) (a 2) w (HA3.out 0 (by decide)).1 (HA3.out 0 (by decide)).2 (HA3.out 1 (by decide)).1 (HA3.out 1 (by decide)).2 (HA3.out 2 (by decide)).1 (HA3.out 2 (by decide)).2 (HA3.out 0 (by decide)).1 (HA3.out 0 (by decide)).2 (HA3.out 1 (by decide)).1 (HA3.out 1 (by decide)).2 (HA3.out 2 (by decide)).1 (HA3.out 2 (by decide)).2)
      have hD0 := sums_nn (a 0) (a 1) (a 2)
      have hml := Fx.mul_bd a2 a2 2147483648 2147483648 (by omega) (by omega) (by omega) (by omega)
      have hll : -4611686018427387904 ≤ a2 * a2 ∧ a2 * a2 ≤ 4611686018427387904 := by omega
      obtain ⟨L, hL⟩ : ∃ L, L = a2 * a2 := ⟨_, rfl⟩
      obtain ⟨d, hd⟩ : ∃ d, d = Fx.sums [a 0 * a 0, a 1 * a 1, a 2 * a 2] := ⟨_, rfl⟩
      rw [← hd] at hsn HDT hD0
      obtain ⟨B, hB⟩ : ∃ B, B = decide (nmF a ≤ a1) := ⟨_, rfl⟩
      obtain ⟨E, hE⟩ : ∃ E, E = decide (a2 ≤ szF a) := ⟨_, rfl⟩
      rw [← hB] at HCV ⊢
      rw [← hE] at HSV
      rw [show ((Fx.root d : Nat) : Int) = szF a from by rw [hd]; rfl, ← hE] at hsn
      have HSN := Lib.hid hsn
      clear hml hd hB hE hsn
      have b9 := HQ.out.of 1 rfl
      have hgo := HG.out
      go_wp2_with ((with_reducible show wpList _ _ _ (_ :: _) _ _); refine wpList_load_row rfl 27 _ rfl _ rfl _ _ _ _ b9 Tryd.underlying27 rfl (by exact size_qc) ?_; (try go_simp))
      refine (Joined_any c _ HC4.out hgo).mono ?_
      rintro e w6 ⟨rfl, hb⟩
      have HQ6 := Lib.hid (HQ.out.step hb)
      have HG6 := Lib.hid (wax_bel HG.out hb)
      clear hb HQ HG b9 hgo
      go_upto_region 21 with ((with_reducible show wpList _ _ _ (_ :: _) _ _); refine wpList_store_row rfl 23 _ _ rfl _ _ rfl rfl _ _ (heap_alloc_new _ _) (by exact size_vc) (by rfl) (by simp [Value.oneCell']) ?_; rw [World.setRow_alloc_new])
      have hq := HQ6.out.new #[.int .i32 (jnF c 0), .int .i32 (jnF c 1), .int .i32 (jnF c 2)] 23
      obtain ⟨w7, hw7⟩ : ∃ w1, w1 = w6.alloc (.cells #[.int .i32 (jnF c 0), .int .i32 (jnF c 1), .int .i32 (jnF c 2)] 23) := ⟨_, rfl⟩
      rw [← hw7] at hq ⊢
      obtain ⟨g20, hg20⟩ : ∃ g, g = w6.heap.size := ⟨_, rfl⟩
      rw [← hg20] at hq ⊢
      have HQ7 := Lib.hid (show Bq w w7 [(g5, #[.int .i32 (a 0), .int .i32 (a 1), .int .i32 (a 2)], 23), (g9, #[.int .i32 (c 0), .int .i32 (c 1), .int .i32 (c 2), .int .i32 (c 3)], 27), (g12, #[.int .i64 (smT c 3 0 0), .int .i64 (smT c 3 0 1), .int .i64 (smT c 3 0 2)], 34), (g13, #[.int .i64 (sgF a a3 0), .int .i64 (sgF a a3 1), .int .i64 (sgF a a3 2)], 35), (g20, #[.int .i32 (jnF c 0), .int .i32 (jnF c 1), .int .i32 (jnF c 2)], 23)] from hq)
      clear hw7 hg20 hq HQ6 HG6
      have b12 := HQ7.out.of 2 rfl
      go_wp2_with ((with_reducible show wpList _ _ _ (_ :: _) _ _); refine wpList_load_row rfl 34 _ rfl _ rfl _ _ _ _ b12 Tryd.underlying34 rfl (by exact size_tc) ?_; (try go_simp))
      clear b12
      go_loopw [120] (fun v wr => ∃ k : Nat, k ≤ 3 ∧ v = .int .i64 (k : Nat) ∧ Bq w wr [(g5, #[.int .i32 (a 0), .int .i32 (a 1), .int .i32 (a 2)], 23), (g9, #[.int .i32 (c 0), .int .i32 (c 1), .int .i32 (c 2), .int .i32 (c 3)], 27), (g12, #[.int .i64 (smT c 3 0 0), .int .i64 (smT c 3 0 1), .int .i64 (smT c 3 0 2)], 34), (g13, #[.int .i64 (sgF a a3 0), .int .i64 (sgF a a3 1), .int .i64 (sgF a a3 2)], 35), (g20, #[.int .i32 (jnF c 0), .int .i32 (jnF c 1), .int .i32 (jnF c 2)], 23)]) (fun v _ => 3 - (intOf v).toNat)
      case atStart => exact ⟨0, Nat.zero_le _, rfl, HQ7.out⟩
      case round =>
        clear HQ7
        obtain ⟨k, hk, rfl, hq⟩ := hrel
        have HQ := Lib.hid hq
        clear hq
        by_cases h3 : k < 3
        · have hix := s_index (smT c 3 0) h3
          rw [smT_end c h3] at hix
          have c20 := cell_of_row _ _ k _ _ _ (HQ.out.of 4 rfl)
          rw [vx_at _ h3, sq_jn] at c20
          have hsb := sq_bd c k 4
          obtain ⟨S, hS⟩ : ∃ S, S = sq c k 4 := ⟨_, rfl⟩
          rw [← hS] at hsb hix c20
          have hsb2 : -8589934592 ≤ S ∧ S ≤ 8589934592 := by omega
          have HRS := Lib.hid (fun w => rSat_any S w (by omega) (by omega))
          obtain ⟨X, hX⟩ : ∃ X, X = Fx.sat S := ⟨_, rfl⟩
          rw [← hX] at c20 HRS
          clear hS hsb hX
          go_upto_region 24 with fail
          clear hix
          go_quiet ((go_at_call 13; exact quiet_eq (HRS.out _)))
          have HQ2 := Lib.hid (HQ.out.step (bel_drewV wr nq))
          clear HQ c20 HRS
          go_wp2
          go_roundw
          case rel => exact ⟨k + 1, by omega, by go_num, HQ2.out⟩
          case measure => simp [intOf]; omega
        · obtain rfl : k = 3 := by omega
          clear hk h3
          have b5 := HQ.out.of 0 rfl
          go_wp2_with ((with_reducible show wpList _ _ _ (_ :: _) _ _); refine wpList_load_row rfl 23 _ rfl _ rfl _ _ _ _ b5 Tryd.underlying23 rfl (by exact size_vc) ?_; (try go_simp))
          refine (HDT.out _).mono ?_
          rintro e w8 ⟨rfl, hb⟩
          have HQ2 := Lib.hid (HQ.out.step hb)
          clear hb HQ b5 HDT
          rw [← hL] at hll
          rw [← hL] at HSN
          go_upto_region 29 with fail
          go_cut [25] (fun q wx => q = .bool E ∧ wx = w8)
          case first =>
            by_cases h0 : a2 ≤ 0
            · have e : E = true := by rw [HSN.out]; simp [h0]
              subst e
              go_wp2
              go_meet
              case rel => exact ⟨rfl, rfl⟩
            · by_cases h1 : L ≤ d
              · have e : E = true := by rw [HSN.out]; simp [h1]
                subst e
                rw [hL] at h1 hll
                go_wp2
                go_meet
                case rel => exact ⟨rfl, rfl⟩
              · have e : E = false := by rw [HSN.out]; simp [h1, h0]
                subst e
                rw [hL] at h1 hll
                go_wp2
                go_meet
                case rel => exact ⟨rfl, rfl⟩
          case rest =>
          obtain ⟨rfl, rfl⟩ := hcut
          clear HSN hll hL L hD0
          have b5 := HQ2.out.of 0 rfl
          go_wp2_with ((with_reducible show wpList _ _ _ (_ :: _) _ _); refine wpList_load_row rfl 23 _ rfl _ rfl _ _ _ _ b5 Tryd.underlying23 rfl (by exact size_vc) ?_; (try go_simp))
          refine (HCV.out _).mono ?_
          rintro e w9 ⟨rfl, hb⟩
          have HQ3 := Lib.hid (HQ2.out.step hb)
          clear hb HQ2 b5 HCV
          have b5 := HQ3.out.of 0 rfl
          have c0 := cell_of_row _ _ 0 _ _ _ b5
          have c1 := cell_of_row _ _ 1 _ _ _ b5
          have c2 := cell_of_row _ _ 2 _ _ _ b5
          go_wp2_with fail
          go_at_call 17
          refine (HSV.out _).mono ?_
          rintro e w10 ⟨rfl, hb⟩
          have HQ4 := Lib.hid (HQ3.out.step hb)
          clear hb HQ3 b5 HSV c0 c1 c2
          go_wp2_with fail
          go_ret
          exact ⟨rfl, HQ4.out.be⟩
end Go.Proofs.YtinaimacocgemaaDoor
