/- SteerShares. -/
import Derived.Test.YtinaimacocgemaaDoorLaw23h
namespace Go.Proofs.YtinaimacocgemaaDoor
open Go.RowKit Go.Own Bs
set_option linter.unusedVariables false
set_option linter.unusedSimpArgs false
set_option maxRecDepth 100000 in
set_option maxHeartbeats 8000000 in
theorem walk_SteerShares (x0 y0 z0 a1 a2 : Int) (w : World) (wx0 : (Lit.int .i32 x0).wf = true) (wy0 : (Lit.int .i32 y0).wf = true) (wz0 : (Lit.int .i32 z0).wf = true) (w1 : (Lit.int .u16 a1).wf = true) (w2 : (Lit.int .i32 a2).wf = true) (hG : WAx w) :
    Calls Tryd.prog 3 #[.agg #[.int .i32 x0, .int .i32 y0, .int .i32 z0], .int .u16 a1, .int .i32 a2] w fun e w' => e = .returned (.bool true) ∧ Below w.heap.size w w' := by
  obtain ⟨t, ht, rfl, rfl, rfl⟩ := vec_of wx0 wy0 wz0
  obtain ⟨mlo, mhi⟩ := bounds_i32 w2
  obtain ⟨r0, r1⟩ := bounds_u16 w1
  obtain ⟨s, rfl⟩ := Int.eq_ofNat_of_zero_le r0
  have hs : s < 65536 := by omega
  have HT := Lib.hid ht
  have hw0 := hG.lt
  clear wx0 wy0 wz0 w1 w2 r0 r1 ht
  have hz := zero_vcS
  have hz2 := zero_qc
  have hq := (Bq.nil w).new #[.int .i32 (t 0), .int .i32 (t 1), .int .i32 (t 2)] 23
  have hg := hG.below (show Below w.heap.size w (w.alloc (.cells #[.int .i32 (t 0), .int .i32 (t 1), .int .i32 (t 2)] 23)) by repeat' (first | (with_reducible exact Below.refl _ _) | (with_reducible assumption) | (with_reducible refine Below.setCell ?_ ?_ _) | (with_reducible refine Below.alloc ?_ ?_ _) | (with_reducible refine Below.drew ?_) | (with_reducible refine Below.drawsN ?_ _) | go_size)) hG.lt
  go_enter Tryd.func3, Tryd.ntmps3
  go_upto_region 1 with fail
  obtain ⟨w1, hw1⟩ : ∃ w1, w1 = w.alloc (.cells #[.int .i32 (t 0), .int .i32 (t 1), .int .i32 (t 2)] 23) := ⟨_, rfl⟩
  rw [← hw1] at hq hg ⊢
  obtain ⟨g3, hg3⟩ : ∃ g, g = w.heap.size := ⟨_, rfl⟩
  rw [← hg3] at hq
  rw [show (Value.pointer (some ⟨w.heap.size, 0, none⟩)) = .pointer (some ⟨g3, 0, none⟩) by rw [hg3]]
  have HQ := Lib.hid (show Bq w w1 [(g3, #[.int .i32 (t 0), .int .i32 (t 1), .int .i32 (t 2)], 23)] from hq)
  have HG := Lib.hid hg
  clear hq hw1 hg3 hg hG
  go_wp2_with fail
  go_at_call 6
  refine (awake23 _).mono ?_
  rintro e w2 ⟨rfl, hb⟩
  have HQ2 := Lib.hid (HQ.out.step hb)
  have HG2 := Lib.hid (HG.out.below hb HG.out.lt)
  clear hb HQ HG
  go_upto_region 3 with fail
  have b3 := HQ2.out.of 0 rfl
  go_wp2_with ((with_reducible show wpList _ _ _ (_ :: _) _ _); refine wpList_load_row rfl 23 _ rfl _ rfl _ _ _ _ b3 Tryd.underlying23 rfl (by exact size_vc) ?_; (try go_simp))
  refine (Share_any t s a2 _ HT.out hs mlo mhi HG2.out).mono ?_
  rintro e w3 ⟨rfl, hb⟩
  have HQ3 := Lib.hid (HQ2.out.step hb)
  have HG3 := Lib.hid (HG2.out.below hb HG2.out.lt)
  obtain ⟨c, hc⟩ : ∃ c, c = shF t s a2 := ⟨_, rfl⟩
  rw [← hc]
  have HC := Lib.hid hc
  clear hb HQ2 HG2 b3 hc
  go_upto_region 4 with ((with_reducible show wpList _ _ _ (_ :: _) _ _); refine wpList_store_row rfl 27 _ _ rfl _ _ rfl rfl _ _ (heap_alloc_new _ _) (by exact size_qc) (by rfl) (by simp [Value.oneCell']) ?_; rw [World.setRow_alloc_new])
  have hq := HQ3.out.new #[.int .i32 (c 0), .int .i32 (c 1), .int .i32 (c 2), .int .i32 (c 3)] 27
  have hg := HG3.out.below (show Below w3.heap.size w3 (w3.alloc (.cells #[.int .i32 (c 0), .int .i32 (c 1), .int .i32 (c 2), .int .i32 (c 3)] 27)) by repeat' (first | (with_reducible exact Below.refl _ _) | (with_reducible assumption) | (with_reducible refine Below.setCell ?_ ?_ _) | (with_reducible refine Below.alloc ?_ ?_ _) | (with_reducible refine Below.drew ?_) | (with_reducible refine Below.drawsN ?_ _) | go_size)) HG3.out.lt
  obtain ⟨w4, hw4⟩ : ∃ w4, w4 = w3.alloc (.cells #[.int .i32 (c 0), .int .i32 (c 1), .int .i32 (c 2), .int .i32 (c 3)] 27) := ⟨_, rfl⟩
  obtain ⟨g7, hg7⟩ : ∃ g, g = w3.heap.size := ⟨_, rfl⟩
  rw [← hw4] at hg
  rw [← hw4, ← hg7] at hq
  rw [← hw4, ← hg7]
  have HQ4 := Lib.hid (show Bq w w4 [(g3, #[.int .i32 (t 0), .int .i32 (t 1), .int .i32 (t 2)], 23), (g7, #[.int .i32 (c 0), .int .i32 (c 1), .int .i32 (c 2), .int .i32 (c 3)], 27)] from hq)
  have HG4 := Lib.hid hg
  clear hw4 hg7 hq hg HQ3 HG3
  simp only [Act.put]
  have b7 := HQ4.out.of 1 rfl
  go_wp2_with ((with_reducible show wpList _ _ _ (_ :: _) _ _); refine wpList_load_row rfl 27 _ rfl _ rfl _ _ _ _ b7 Tryd.underlying27 rfl (by exact size_qc) ?_; (try go_simp))
  clear b7
  go_loopw [25] (fun v wr => ∃ k : Nat, k ≤ 4 ∧ v = .int .i64 (k : Nat) ∧ Bq w wr [(g3, #[.int .i32 (t 0), .int .i32 (t 1), .int .i32 (t 2)], 23), (g7, #[.int .i32 (c 0), .int .i32 (c 1), .int .i32 (c 2), .int .i32 (c 3)], 27)] ∧ WAx wr) (fun v _ => 4 - (intOf v).toNat)
  case atStart => exact ⟨0, Nat.zero_le _, rfl, HQ4.out, HG4.out⟩
  case round =>
    clear HQ4 HG4
    obtain ⟨k, hk, rfl, hq, hg⟩ := hrel
    have HQ := Lib.hid hq
    have HG := Lib.hid hg
    clear hq hg
    by_cases h4 : k < 4
    · have hix := q_index c h4
      have HH := Lib.hid (fun w => Has_any s ((k : Nat) : Int) w hs)
      go_wp2_with fail
      go_at_call 8
      refine (HH.out _).mono ?_
      rintro e w5 ⟨rfl, hb⟩
      have HQ5 := Lib.hid (HQ.out.step hb)
      have HG5 := Lib.hid (HG.out.below hb HG.out.lt)
      clear hb HQ HG HH hix
      by_cases h : s &&& bit1 ((k : Nat) : Int) = 0
      · have e : decide (s &&& bit1 ((k : Nat) : Int) ≠ 0) = false := by simp [h]
        have hf0 : (c k != 0) = false := by rw [HC.out]; unfold shF; rw [if_neg (by simp [h])]; rfl
        rw [e]
        clear h e
        go_wp2
        go_roundw
        case rel => exact ⟨k + 1, by omega, by go_num, HQ5.out, HG5.out⟩
        case measure => simp [intOf]; omega
      · have e : decide (s &&& bit1 ((k : Nat) : Int) ≠ 0) = true := by simp [h]
        have hf1 : c k = shW t a2 k := by rw [HC.out]; unfold shF; rw [if_pos (by simpa using h)]
        have HF1 := Lib.hid hf1
        have b3 := HQ5.out.of 0 rfl
        rw [e]
        clear h e hf1
        go_wp2_with ((with_reducible show wpList _ _ _ (_ :: _) _ _); refine wpList_load_row rfl 23 _ rfl _ rfl _ _ _ _ b3 Tryd.underlying23 rfl (by exact size_vc) ?_; (try go_simp))
        refine (rShare_any t k a2 _ h4 HT.out mlo mhi).mono ?_
        rintro e w6 ⟨rfl, hb⟩
        rw [← HF1.out]
        have HQ6 := Lib.hid (HQ5.out.step hb)
        have HG6 := Lib.hid (HG5.out.below hb HG5.out.lt)
        clear hb HQ5 HG5 b3
        go_wp2
        go_roundw
        case rel => exact ⟨k + 1, by omega, by go_num, HQ6.out, HG6.out⟩
        case measure => simp [intOf]; omega
    · obtain rfl : k = 4 := by omega
      clear hk h4
      go_upto_region 14 with fail
      have hq := HQ.out.new #[.int .i32 0, .int .i32 0, .int .i32 0] 23
      have hg := HG.out.below (show Below wr.heap.size wr (wr.alloc (.cells #[.int .i32 0, .int .i32 0, .int .i32 0] 23)) by repeat' (first | (with_reducible exact Below.refl _ _) | (with_reducible assumption) | (with_reducible refine Below.setCell ?_ ?_ _) | (with_reducible refine Below.alloc ?_ ?_ _) | (with_reducible refine Below.drew ?_) | (with_reducible refine Below.drawsN ?_ _) | go_size)) HG.out.lt
      obtain ⟨w5, hw5⟩ : ∃ w5, w5 = wr.alloc (.cells #[.int .i32 0, .int .i32 0, .int .i32 0] 23) := ⟨_, rfl⟩
      obtain ⟨g11, hg11⟩ : ∃ g, g = wr.heap.size := ⟨_, rfl⟩
      rw [← hw5] at hg
      rw [← hw5, ← hg11] at hq
      rw [← hw5, ← hg11]
      have HQ5 := Lib.hid (show Bq w w5 [(g3, #[.int .i32 (t 0), .int .i32 (t 1), .int .i32 (t 2)], 23), (g7, #[.int .i32 (c 0), .int .i32 (c 1), .int .i32 (c 2), .int .i32 (c 3)], 27), (g11, #[.int .i32 (smP t 100000 0 0), .int .i32 (smP t 100000 0 1), .int .i32 (smP t 100000 0 2)], 23)] from hq)
      have HG5 := Lib.hid hg
      clear hw5 hg11 hq hg HQ HG
      have b3 := HQ5.out.of 0 rfl
      go_wp2_with ((with_reducible show wpList _ _ _ (_ :: _) _ _); refine wpList_load_row rfl 23 _ rfl _ rfl _ _ _ _ b3 Tryd.underlying23 rfl (by exact size_vc) ?_; (try go_simp))
      clear b3
      go_loopw [41] (fun v wr => ∃ k : Nat, k ≤ 3 ∧ v = .int .i64 (k : Nat) ∧ Bq w wr [(g3, #[.int .i32 (t 0), .int .i32 (t 1), .int .i32 (t 2)], 23), (g7, #[.int .i32 (c 0), .int .i32 (c 1), .int .i32 (c 2), .int .i32 (c 3)], 27), (g11, #[.int .i32 (smP t 100000 k 0), .int .i32 (smP t 100000 k 1), .int .i32 (smP t 100000 k 2)], 23)] ∧ WAx wr) (fun v _ => 3 - (intOf v).toNat)
      case atStart => exact ⟨0, Nat.zero_le _, rfl, HQ5.out, HG5.out⟩
      case round =>
        clear HQ5 HG5
        obtain ⟨k, hk, rfl, hq, hg⟩ := hrel
        have HQ := Lib.hid hq
        have HG := Lib.hid hg
        clear hq hg
        by_cases h3 : k < 3
        · have hix := v_index t h3
          have b11 := HQ.out.of 2 rfl
          have c11 := cell_of_row _ _ k _ _ _ b11
          rw [vx_at _ h3] at c11
          have f11 := frozen_of_row _ _ k _ _ b11
          have hv := HQ.out.set 2 rfl k (.int .i32 ((t k).tmod 100000))
          rw [show (#[.int .i32 (smP t 100000 k 0), .int .i32 (smP t 100000 k 1), .int .i32 (smP t 100000 k 2)] : Array Value).setIfInBounds k (.int .i32 ((t k).tmod 100000)) = #[.int .i32 (smP t 100000 (k + 1) 0), .int .i32 (smP t 100000 (k + 1) 1), .int .i32 (smP t 100000 (k + 1) 2)] from smP_set t 100000 h3] at hv
          have hg11 : g11 ≠ 0 := by have := HQ.out.low 2 rfl; omega
          have hg := HG.out.set hg11 k (.int .i32 ((t k).tmod 100000))
          have hbd := HT.out k h3
          have HV := Lib.hid hv
          have HG2 := Lib.hid hg
          clear b11 hv hg hg11 HQ HG
          go_wp2
          go_roundw
          case rel => exact ⟨k + 1, by omega, by go_num, HV.out, HG2.out⟩
          case measure => simp [intOf]; omega
        · obtain rfl : k = 3 := by omega
          clear hk h3
          obtain ⟨m, hm⟩ : ∃ m, m = smF t 100000 := ⟨_, rfl⟩
          have hmb : ∀ j, j < 3 → -99999 ≤ m j ∧ m j ≤ 99999 := fun j _ => by have := sm_bd t (n := 100000) (by decide) j; rw [hm]; omega
          have hm3 : In3 m := fun j hj => by have := hmb j hj; omega
          have HQ5 := Lib.hid (show Bq w _ [(g3, #[.int .i32 (t 0), .int .i32 (t 1), .int .i32 (t 2)], 23), (g7, #[.int .i32 (c 0), .int .i32 (c 1), .int .i32 (c 2), .int .i32 (c 3)], 27), (g11, #[.int .i32 (m 0), .int .i32 (m 1), .int .i32 (m 2)], 23)] from by rw [hm]; exact HQ.out)
          obtain ⟨w6, hw6⟩ : ∃ w6, w6 = wr := ⟨_, rfl⟩
          have HG6 := Lib.hid HG.out
          rw [← hw6] at HQ5 HG6 ⊢
          have HMB := Lib.hid hmb
          have HM3 := Lib.hid hm3
          clear hw6 hm hmb hm3 HQ HG
          go_upto_region 19 with fail
          have b11 := HQ5.out.of 2 rfl
          have l11 := box_lt b11
          have lg := HG6.out.lt
          obtain ⟨d, hd⟩ : ∃ d, d = shF m 15 2147483647 := ⟨_, rfl⟩
          have hd4 : In4 d := fun j hj => by
            have h := sh_all HMB.out j hj
            rw [hd, h.1]
            omega
          have HD4 := Lib.hid hd4
          have HD := Lib.hid hd
          clear hd hd4
          obtain ⟨I, W, hne, hWI, hIW⟩ := Go.Mix.family (fun v => Below w6.heap.size w6 v) (Below.refl _ _)
          have HJ := Lib.hid hIW
          have HW := Lib.hid hWI
          clear hWI hIW
          refine Go.Flo3.wp_region (fun w' => ∃ i, w' = W i) 6 [Go.Flo.Spec.row w6.heap.size 4 #[.int .i64 0, .int .i64 1, .int .i64 2, .int .i64 3] 3, Go.Flo.Spec.is (.int .u16 15), Go.Flo.Spec.is (.agg #[.int .i32 (d 0), .int .i32 (d 1), .int .i32 (d 2), .int .i32 (d 3)]), Go.Flo.Spec.is (.agg #[.int .i32 (jnF d 0), .int .i32 (jnF d 1), .int .i32 (jnF d 2)]), Go.Flo.Spec.ptr w6.heap.size #[.int .i32 0, .int .i32 0, .int .i32 0] 23] (by kernel_rfl) (by kernel_rfl) (by decide) (by rintro _ w' ⟨i, rfl⟩ hb; exact HJ.out _ ((HW.out i).trans (hb.mono (HW.out i).size))) (HJ.out _ (Below.refl _ _).drew) ?_
          simp only [Go.Flo.pair, Go.Mix.calm, List.take, List.drop, if_true, Bool.false_eq_true, if_false, Nat.reduceAdd, Nat.reduceSub]
          (refine Go.Flo.fw_calm rfl ?_ (fun K hK => ?_); (first | exact Go.Mix.wanted_none rfl | exact Go.Mix.wanted_tt rfl rfl rfl | exact Go.Mix.wanted_ff rfl rfl rfl); refine Go.Flo.quiet_load_row 23 _ rfl _ rfl _ #[.int .i32 (m 0), .int .i32 (m 1), .int .i32 (m 2)] _ (by rintro _ ⟨i, rfl⟩; exact ((HW.out i).block _ l11).trans b11) Tryd.underlying23 rfl size_vc ?_; go_simp; refine hK _ ?_; clear hK K)
          refine Go.Flo.fw_loud rfl ?_ rfl (by simp) (fun wv hwv hav K hK => ?_) (fun v hv K hK => ?_)
          · (first | exact Go.Mix.wanted_none rfl | exact Go.Mix.wanted_tt rfl rfl rfl | exact Go.Mix.wanted_ff rfl rfl rfl)
          · obtain ⟨iv, rfl⟩ := hwv
            (first | go_big_op | go_simp)
            refine hK _ _ (Go.Flo.owes_row (HW.out iv).size)
          obtain ⟨g51, hg51, rfl⟩ := hv.row
          go_simp
          refine hK _ ?_
          clear hK K hv
          refine Go.Flo.fw_loud rfl ?_ rfl (by simp) (fun wv hwv hav K hK => ?_) (fun v hv K hK => ?_)
          · (first | exact Go.Mix.wanted_none rfl | exact Go.Mix.wanted_tt rfl rfl rfl | exact Go.Mix.wanted_ff rfl rfl rfl)
          · obtain ⟨iv, rfl⟩ := hwv
            have hbv := HW.out iv
            (first | go_big_op | go_simp)
            have hsr := Go.Flo.says_row ((hav 51 (by decide +kernel)).2 rfl).1
            go_at_call 11
            refine (Of4 g51 _ _ hsr).mono ?_
            rintro e w' ⟨rfl, hb⟩
            exact hK _ _ (Go.Flo.owes_is _ rfl hb)
          obtain rfl := hv.is
          go_simp
          refine hK _ ?_
          clear hK K hv
          refine Go.Flo.fw_loud rfl ?_ rfl (by simp) (fun wv hwv hav K hK => ?_) (fun v hv K hK => ?_)
          · (first | exact Go.Mix.wanted_none rfl | exact Go.Mix.wanted_tt rfl rfl rfl | exact Go.Mix.wanted_ff rfl rfl rfl)
          · obtain ⟨iv, rfl⟩ := hwv
            have hbv := HW.out iv
            (first | go_big_op | go_simp)
            go_at_call 7
            refine (Share_any m 15 2147483647 _ HM3.out (by decide) (by decide) (by decide) (HG6.out.below hbv lg)).mono ?_
            rintro e w' ⟨rfl, hb⟩
            rw [← HD.out]
            exact hK _ _ (Go.Flo.owes_is _ rfl hb)
          obtain rfl := hv.is
          go_simp
          refine hK _ ?_
          clear hK K hv
          refine Go.Flo.fw_loud rfl ?_ rfl (by simp) (fun wv hwv hav K hK => ?_) (fun v hv K hK => ?_)
          · (first | exact Go.Mix.wanted_none rfl | exact Go.Mix.wanted_tt rfl rfl rfl | exact Go.Mix.wanted_ff rfl rfl rfl)
          · obtain ⟨iv, rfl⟩ := hwv
            have hbv := HW.out iv
            (first | go_big_op | go_simp)
            go_at_call 10
            refine (Joined_any d _ HD4.out (HG6.out.below hbv lg)).mono ?_
            rintro e w' ⟨rfl, hb⟩
            exact hK _ _ (Go.Flo.owes_is _ rfl hb)
          obtain rfl := hv.is
          go_simp
          refine hK _ ?_
          clear hK K hv
          refine Go.Flo.fw_loud rfl ?_ rfl (by simp) (fun wv hwv hav K hK => ?_) (fun v hv K hK => ?_)
          · (first | exact Go.Mix.wanted_none rfl | exact Go.Mix.wanted_tt rfl rfl rfl | exact Go.Mix.wanted_ff rfl rfl rfl)
          · obtain ⟨iv, rfl⟩ := hwv
            (first | go_big_op | go_simp)
            refine hK _ _ (Go.Flo.owes_ptr (HW.out iv).size)
          obtain ⟨g14, hg14, rfl, hng14⟩ := hv.ptr rfl
          go_simp
          refine hK _ ?_
          clear hK K hv
          refine Go.Flo.fw_nil ?_
          intro wc hwwc hfwc huwc
          obtain ⟨iend, hiend⟩ := hwwc
          have hbwc := HW.out iend
          rw [← hiend] at hbwc
          clear hiend iend huwc
          have h14 := Go.Flo.says_ptr ((hfwc (some 14)).2 rfl).1
          have hq1 := (HQ5.out.step hbwc).more (g := g14) (fun x hx => by have := HQ5.out.lt x hx; omega) (by have := HQ5.out.be.size; omega) h14
          have HQ7 := Lib.hid (show Bq w (wc.setRow g14 #[.int .i32 (jnF d 0), .int .i32 (jnF d 1), .int .i32 (jnF d 2)]) [(g3, #[.int .i32 (t 0), .int .i32 (t 1), .int .i32 (t 2)], 23), (g7, #[.int .i32 (c 0), .int .i32 (c 1), .int .i32 (c 2), .int .i32 (c 3)], 27), (g11, #[.int .i32 (m 0), .int .i32 (m 1), .int .i32 (m 2)], 23), (g14, #[.int .i32 (jnF d 0), .int .i32 (jnF d 1), .int .i32 (jnF d 2)], 23)] from hq1.put 3 rfl #[.int .i32 (jnF d 0), .int .i32 (jnF d 1), .int .i32 (jnF d 2)])
          clear hfwc HJ HW hne hbwc b11 l11 lg hng14 hg14 hg51 hq1 HQ5 HG6
          clear W I
          refine ⟨fun _ => True, trivial, ?_⟩

          (repeat (first | (refine Go.Mix.walk_calm rfl ?_ (fun K hK => ?_); (first | exact Go.Mix.wanted_none rfl | exact Go.Mix.wanted_tt rfl rfl rfl | exact Go.Mix.wanted_ff rfl rfl rfl); go_big_quiet_op; refine hK _ ?_; clear hK K) | (refine Go.Mix.walk_skip ?_ (fun K hK => ?_); (first | exact Go.Mix.wanted_tf rfl rfl rfl | exact Go.Mix.wanted_ft rfl rfl rfl); go_simp; refine hK _ ?_; clear hK K) | (refine Go.Mix.walk_loud rfl ?_ (fun K hK => ?_); (first | exact Go.Mix.wanted_none rfl | exact Go.Mix.wanted_tt rfl rfl rfl | exact Go.Mix.wanted_ff rfl rfl rfl); (first | go_big_op | go_simp); (first | (refine hK _ _ trivial ?_; clear hK K) | (fail; (try dsimp only); refine hK _ _ trivial ?_; clear hK K))) | (refine Go.Mix.walk_step (fun K hK => ?_); go_simp; (try (go_ints; try go_simp)); refine hK _ _ ?_; clear hK K)))
          (refine Go.Mix.walk_loud rfl ?_ (fun K hK => ?_); (first | exact Go.Mix.wanted_none rfl | exact Go.Mix.wanted_tt rfl rfl rfl | exact Go.Mix.wanted_ff rfl rfl rfl); refine wp_store_row 23 _ _ rfl _ #[.int .i32 (jnF d 0), .int .i32 (jnF d 1), .int .i32 (jnF d 2)] rfl rfl 23 _ h14 size_vc rfl (by simp [Value.oneCell']) (hK _ _ trivial ?_); clear hK K)
          (repeat (first | (refine Go.Mix.walk_calm rfl ?_ (fun K hK => ?_); (first | exact Go.Mix.wanted_none rfl | exact Go.Mix.wanted_tt rfl rfl rfl | exact Go.Mix.wanted_ff rfl rfl rfl); go_big_quiet_op; refine hK _ ?_; clear hK K) | (refine Go.Mix.walk_skip ?_ (fun K hK => ?_); (first | exact Go.Mix.wanted_tf rfl rfl rfl | exact Go.Mix.wanted_ft rfl rfl rfl); go_simp; refine hK _ ?_; clear hK K) | (refine Go.Mix.walk_loud rfl ?_ (fun K hK => ?_); (first | exact Go.Mix.wanted_none rfl | exact Go.Mix.wanted_tt rfl rfl rfl | exact Go.Mix.wanted_ff rfl rfl rfl); (first | go_big_op | go_simp); (first | (refine hK _ _ trivial ?_; clear hK K) | (fail; (try dsimp only); refine hK _ _ trivial ?_; clear hK K))) | (refine Go.Mix.walk_step (fun K hK => ?_); go_simp; (try (go_ints; try go_simp)); refine hK _ _ ?_; clear hK K)))
          refine Go.Mix.walk_nil ?_
          obtain ⟨w7, hw7⟩ : ∃ w7, w7 = wc.setRow g14 #[.int .i32 (jnF d 0), .int .i32 (jnF d 1), .int .i32 (jnF d 2)] := ⟨_, rfl⟩
          rw [← hw7] at HQ7 ⊢
          clear hw7 h14
          have b14 := HQ7.out.of 3 rfl
          go_wp2_with ((with_reducible show wpList _ _ _ (_ :: _) _ _); refine wpList_load_row rfl 23 _ rfl _ rfl _ _ _ _ b14 Tryd.underlying23 rfl (by exact size_vc) ?_; (try go_simp))
          clear b14
          go_loopw [56] (fun v wr => ∃ k : Nat, k ≤ 3 ∧ v = .int .i64 (k : Nat) ∧ Bq w wr [(g3, #[.int .i32 (t 0), .int .i32 (t 1), .int .i32 (t 2)], 23), (g7, #[.int .i32 (c 0), .int .i32 (c 1), .int .i32 (c 2), .int .i32 (c 3)], 27), (g11, #[.int .i32 (m 0), .int .i32 (m 1), .int .i32 (m 2)], 23), (g14, #[.int .i32 (jnF d 0), .int .i32 (jnF d 1), .int .i32 (jnF d 2)], 23)]) (fun v _ => 3 - (intOf v).toNat)
          case atStart => exact ⟨0, Nat.zero_le _, rfl, HQ7.out⟩
          case round =>
            clear HQ7
            obtain ⟨k, hk, rfl, hq⟩ := hrel
            have HQ := Lib.hid hq
            clear hq
            by_cases h3 : k < 3
            · have hix := v_index (jnF d) h3
              have hb4 := join_back HMB.out k h3
              rw [← HD.out] at hb4
              have hbd : -2147483648 ≤ jnF d k ∧ jnF d k ≤ 2147483647 := ⟨Fx.sat_lo _, Fx.sat_hi _⟩
              have hbm := HMB.out k h3
              have c11 := cell_of_row _ _ k _ _ _ (HQ.out.of 2 rfl)
              rw [vx_at _ h3] at c11
              obtain ⟨x, hx⟩ : ∃ x, x = jnF d k := ⟨_, rfl⟩
              obtain ⟨y, hy⟩ : ∃ y, y = m k := ⟨_, rfl⟩
              rw [← hx] at hix hb4 hbd
              rw [← hy] at hb4 hbm c11
              have n1 : ¬ 4 < x - y := by omega
              have n2 : ¬ x - y < -4 := by omega
              clear hx hy
              go_wp2
              go_roundw
              case rel => exact ⟨k + 1, by omega, by go_num, HQ.out⟩
              case measure => simp [intOf]; omega
            · obtain rfl : k = 3 := by omega
              go_wp2
              go_ret
              exact ⟨rfl, HQ.out.be⟩
end Go.Proofs.YtinaimacocgemaaDoor
