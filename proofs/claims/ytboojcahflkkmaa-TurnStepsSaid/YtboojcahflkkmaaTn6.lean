/- Layer 20: a cycle. -/
import Derived.Test.YtboojcahflkkmaaTn5
namespace Go.Proofs.Ytboojcahflkkmaa
open Go.RowKit Go.Own Bs
set_option linter.unusedVariables false
set_option linter.unusedSimpArgs false
set_option maxRecDepth 100000 in
set_option maxHeartbeats 4000000 in
theorem power_any (f t : Nat → Int) (wk ls : Nat) (w : World) (hf : ChOk f) (ht : ChOk t) (hwk : wk < 65536) (hls : ls < 65536) : Calls Try.prog 78 #[.agg #[.int .u8 1, .int .i8 (f 0), .int .i8 (f 1), .int .i8 (f 2), .int .i8 (f 3), .int .i8 (f 4), .int .i8 (f 5), .int .i8 (t 0), .int .i8 (t 1), .int .i8 (t 2), .int .i8 (t 3), .int .i8 (t 4), .int .i8 (t 5)], .int .u16 (wk : Nat), .int .u16 (ls : Nat)] w (NxPost w (powR f t wk ls)) := by
  obtain ⟨p, hp⟩ : ∃ p : Int, p = 1 := ⟨_, rfl⟩
  rw [← hp]
  have HP := Lib.hid hp
  have hS := T3.new w p f t
  have hzt := zero_tn
  have hzs := zero_st
  obtain ⟨s, hs⟩ : ∃ s, s = unitsS t 6 := ⟨_, rfl⟩
  have hs1 : s < 65536 := by rw [hs]; exact unitsS_lt t 6
  obtain ⟨q, hq⟩ : ∃ q, q = s &&& ls := ⟨_, rfl⟩
  have HR := Lib.hid (show powR f t wk ls = if q = 0 then (if lessS s wk = 0 then ⟨2, f, t, 0, false, 0⟩ else ⟨1, f, t, 0, false, 0⟩) else ⟨0, f, f, onlyS t f, false, q⟩ by rw [hq, hs]; rfl)
  have HSS := Lib.hid hs
  have HQ := Lib.hid hq
  have HC := Lib.hid (And.intro hf ht)
  clear hs hq hp hf ht
  skip
  go_enter Try.func78, Try.ntmps78
  go_upto_region 1 with fail
  obtain ⟨w1, hw1⟩ : ∃ w1, w1 = (((w.alloc (.cells #[.int .u8 p, .int .i8 (f 0), .int .i8 (f 1), .int .i8 (f 2), .int .i8 (f 3), .int .i8 (f 4), .int .i8 (f 5), .int .i8 (t 0), .int .i8 (t 1), .int .i8 (t 2), .int .i8 (t 3), .int .i8 (t 4), .int .i8 (t 5)] 96)).alloc (.cells #[.int .u8 0, .int .i8 0, .int .i8 0, .int .i8 0, .int .i8 0, .int .i8 0, .int .i8 0, .int .i8 0, .int .i8 0, .int .i8 0, .int .i8 0, .int .i8 0, .int .i8 0] 96)).alloc (.cells #[.slice none 0 0, .slice none 0 0, .bool false, .int .u16 0] 98)) := ⟨_, rfl⟩
  rw [← hw1] at hS ⊢
  obtain ⟨B, hB⟩ : ∃ g, g = w.heap.size + 1 + 1 + 1 := ⟨_, rfl⟩
  rw [← hB] at hS
  obtain ⟨g7, hg7⟩ : ∃ g, g = w.heap.size + 1 + 1 := ⟨_, rfl⟩
  rw [← hg7] at hS ⊢
  obtain ⟨g6, hg6⟩ : ∃ g, g = w.heap.size + 1 := ⟨_, rfl⟩
  rw [← hg6] at hS ⊢
  obtain ⟨g3, hg3⟩ : ∃ g, g = w.heap.size := ⟨_, rfl⟩
  rw [show (Value.pointer (some ⟨w.heap.size, 0, none⟩)) = .pointer (some ⟨g3, 0, none⟩) by rw [hg3]]
  have hS : T3 w w1 g3 g6 g7 B p f t := by rw [hg3]; exact hS
  have HS := Lib.hid hS
  clear hS hw1 hB hg7 hg6 hg3
  have b3 := HS.out.b3
  go_wp2_with (((with_reducible show wpList _ _ _ (_ :: _) _ _); refine wpList_load_mid rfl 67 _ rfl _ 7 rfl [.int .i8 (t 0), .int .i8 (t 1), .int .i8 (t 2), .int .i8 (t 3), .int .i8 (t 4), .int .i8 (t 5)] _ (rgT b3) Try.underlying67 rfl (by exact size_ch) ?_; (try go_simp)))
  go_at_call 34
  refine (Units_any t _ HC.out.2).mono ?_
  rintro e w2 ⟨rfl, hb⟩
  rw [← HSS.out]
  have HS2 := Lib.hid (HS.out.step hb)
  clear hb HS b3
  go_wp2_with fail
  go_at_call 35
  refine (And_any s ls _ hs1 hls).mono ?_
  rintro e w3 ⟨rfl, rfl⟩
  rw [← HQ.out]
  by_cases h0 : q = 0
  · have e0 : ((q : Int) != 0) = false := by simp [h0]
    have HR0 := Lib.hid (HR.out.trans (if_pos h0))
    clear h0 HR
    go_wp2_with fail
    go_at_call 57
    refine (Within_any s wk _ hs1 hwk).mono ?_
    rintro e w4 ⟨rfl, rfl⟩
    by_cases h1 : lessS s wk = 0
    · rw [decide_eq_true h1]
      have HR1 := Lib.hid (HR0.out.trans (if_pos h1))
      clear h1 HR0
      have cp := ldTp HS2.out.b3
      have fz := frozen_of_row _ g3 0 _ _ HS2.out.b3
      go_upto_region 7 with fail
      have HS3 := Lib.hid (HS2.out.phase 2)
      clear cp fz
      obtain ⟨w5, hw5⟩ : ∃ w5, w5 = w2.setCell ⟨g3, 0, none⟩ (.int .u8 2) := ⟨_, rfl⟩
      rw [← hw5] at HS3 ⊢
      clear hw5 HS2
      skip
      have b3 := HS3.out.b3
      have b6 := HS3.out.b6
      have b7 := (HS3.out.fin #[.int .u8 2, .int .i8 (f 0), .int .i8 (f 1), .int .i8 (f 2), .int .i8 (f 3), .int .i8 (f 4), .int .i8 (f 5), .int .i8 (t 0), .int .i8 (t 1), .int .i8 (t 2), .int .i8 (t 3), .int .i8 (t 4), .int .i8 (t 5)] #[.slice none 0 0, .slice none 0 0, .bool false, .int .u16 0]).2.2.1
      have HF := Lib.hid (HS3.out.fin #[.int .u8 2, .int .i8 (f 0), .int .i8 (f 1), .int .i8 (f 2), .int .i8 (f 3), .int .i8 (f 4), .int .i8 (f 5), .int .i8 (t 0), .int .i8 (t 1), .int .i8 (t 2), .int .i8 (t 3), .int .i8 (t 4), .int .i8 (t 5)] #[.slice none 0 0, .slice none 0 0, .bool false, .int .u16 0])
      go_wp2_with (first | ((with_reducible show wpList _ _ _ (_ :: _) _ _); refine wpList_load_row rfl 96 _ rfl _ rfl _ _ _ _ b3 Try.underlying96 rfl (by exact size_tn) ?_; (try go_simp)) | ((with_reducible show wpList _ _ _ (_ :: _) _ _); refine wpList_store_row rfl 96 _ _ rfl _ _ rfl rfl _ _ b6 (by exact size_tn) (by rfl) (by simp [Value.oneCell']) ?_) | ((with_reducible show wpList _ _ _ (_ :: _) _ _); refine wpList_store_row rfl 98 _ _ rfl _ _ rfl rfl _ _ b7 (by exact size_st) (by rfl) (by simp [Value.oneCell']) ?_))
      refine bodyPost_ret (res_cc rfl _ _ _ _ _ _ _ _ _ _ rfl rfl HF.out.1 HF.out.2.1 Try.underlying96 rfl (by exact size_tn) Try.underlying98 rfl (by exact size_st)) rfl ?_
      exact ⟨_, by rw [HR1.out]; rfl, (by rw [HR1.out]; exact own_noneT _ _), HF.out.2.2.2⟩
    · rw [decide_eq_false h1]
      have HR1 := Lib.hid (HR0.out.trans (if_neg h1))
      clear h1 HR0
      skip
      have b3 := HS2.out.b3
      have b6 := HS2.out.b6
      have b7 := (HS2.out.fin #[.int .u8 p, .int .i8 (f 0), .int .i8 (f 1), .int .i8 (f 2), .int .i8 (f 3), .int .i8 (f 4), .int .i8 (f 5), .int .i8 (t 0), .int .i8 (t 1), .int .i8 (t 2), .int .i8 (t 3), .int .i8 (t 4), .int .i8 (t 5)] #[.slice none 0 0, .slice none 0 0, .bool false, .int .u16 0]).2.2.1
      have HF := Lib.hid (HS2.out.fin #[.int .u8 p, .int .i8 (f 0), .int .i8 (f 1), .int .i8 (f 2), .int .i8 (f 3), .int .i8 (f 4), .int .i8 (f 5), .int .i8 (t 0), .int .i8 (t 1), .int .i8 (t 2), .int .i8 (t 3), .int .i8 (t 4), .int .i8 (t 5)] #[.slice none 0 0, .slice none 0 0, .bool false, .int .u16 0])
      go_wp2_with (first | ((with_reducible show wpList _ _ _ (_ :: _) _ _); refine wpList_load_row rfl 96 _ rfl _ rfl _ _ _ _ b3 Try.underlying96 rfl (by exact size_tn) ?_; (try go_simp)) | ((with_reducible show wpList _ _ _ (_ :: _) _ _); refine wpList_store_row rfl 96 _ _ rfl _ _ rfl rfl _ _ b6 (by exact size_tn) (by rfl) (by simp [Value.oneCell']) ?_) | ((with_reducible show wpList _ _ _ (_ :: _) _ _); refine wpList_store_row rfl 98 _ _ rfl _ _ rfl rfl _ _ b7 (by exact size_st) (by rfl) (by simp [Value.oneCell']) ?_))
      refine bodyPost_ret (res_cc rfl _ _ _ _ _ _ _ _ _ _ rfl rfl HF.out.1 HF.out.2.1 Try.underlying96 rfl (by exact size_tn) Try.underlying98 rfl (by exact size_st)) rfl ?_
      exact ⟨_, by rw [HR1.out, HP.out]; rfl, (by rw [HR1.out]; exact own_noneT _ _), HF.out.2.2.2⟩
  · have e0 : ((q : Int) != 0) = true := by simp only [bne_iff_ne]; omega
    have HR0 := Lib.hid (HR.out.trans (if_neg h0))
    clear h0 HR
    obtain ⟨o, ho⟩ : ∃ o, o = onlyS t f := ⟨_, rfl⟩
    have HO := Lib.hid ho
    clear ho
    go_upto_region 4 with fail
    have b3 := HS2.out.b3
    have l3 := box_lt b3
    obtain ⟨I, W, hne, hWI, hIW⟩ := Go.Mix.family (fun v => Below w2.heap.size w2 v) (Below.refl _ _)
    have HJ := Lib.hid hIW
    have HW := Lib.hid hWI
    clear hWI hIW
    refine Go.Flo3.wp_region (fun w' => ∃ i, w' = W i) 9 [Go.Flo.Spec.is (.agg #[.int .u8 0, .int .i8 (f 0), .int .i8 (f 1), .int .i8 (f 2), .int .i8 (f 3), .int .i8 (f 4), .int .i8 (f 5), .int .i8 (f 0), .int .i8 (f 1), .int .i8 (f 2), .int .i8 (f 3), .int .i8 (f 4), .int .i8 (f 5)]), SpZ B (upTo o 16)] (by kernel_rfl) (by kernel_rfl) (by decide) (by rintro _ w' ⟨i, rfl⟩ hb; exact HJ.out _ ((HW.out i).trans (hb.mono (HW.out i).size))) (HJ.out _ (Below.refl _ _).drew) ?_
    simp only [Go.Flo.pair, Go.Mix.calm, List.take, List.drop, if_true, Bool.false_eq_true, if_false, Nat.reduceAdd, Nat.reduceSub]
    (first | (refine Go.Flo.fw_calm rfl ?_ (fun K hK => ?_); (first | exact Go.Mix.wanted_none rfl | exact Go.Mix.wanted_tt rfl rfl rfl | exact Go.Mix.wanted_ff rfl rfl rfl); go_big_quiet_op; refine hK _ ?_; clear hK K) | (refine Go.Flo.fw_skip ?_ (fun K hK => ?_); (first | exact Go.Mix.wanted_tf rfl rfl rfl | exact Go.Mix.wanted_ft rfl rfl rfl); go_simp; refine hK _ ?_; clear hK K) | (refine Go.Flo.fw_any rfl ?_ (fun K hK => ?_); (first | exact Go.Mix.wanted_none rfl | exact Go.Mix.wanted_tt rfl rfl rfl | exact Go.Mix.wanted_ff rfl rfl rfl); go_simp; (try (go_ints; try go_simp)); refine hK _ ?_; clear hK K))
    (refine Go.Flo.fw_calm rfl ?_ (fun K hK => ?_); (first | exact Go.Mix.wanted_none rfl | exact Go.Mix.wanted_tt rfl rfl rfl | exact Go.Mix.wanted_ff rfl rfl rfl); refine Go.Flo.quiet_load_midT 67 _ rfl _ 1 rfl [.int .i8 (f 0), .int .i8 (f 1), .int .i8 (f 2), .int .i8 (f 3), .int .i8 (f 4), .int .i8 (f 5)] (by rintro _ ⟨i, rfl⟩; exact rgF (((HW.out i).block _ l3).trans b3)) Try.underlying67 rfl size_ch ?_; go_simp; refine hK _ ?_; clear hK K)
    refine Go.Flo.fw_loud rfl ?_ rfl (by simp) (fun wv hwv hav K hK => ?_) (fun v hv K hK => ?_)
    · (first | exact Go.Mix.wanted_none rfl | exact Go.Mix.wanted_tt rfl rfl rfl | exact Go.Mix.wanted_ff rfl rfl rfl)
    · obtain ⟨iv, rfl⟩ := hwv
      have hbv := HW.out iv
      (first | go_big_op | go_simp)
      go_at_call 79
      refine (idle_any f _).mono ?_
      rintro e w' ⟨rfl, hb⟩
      exact hK _ _ (Go.Flo.owes_is _ rfl hb)
    obtain rfl := hv.is
    go_simp
    refine hK _ ?_
    clear hK K hv
    (first | (refine Go.Flo.fw_calm rfl ?_ (fun K hK => ?_); (first | exact Go.Mix.wanted_none rfl | exact Go.Mix.wanted_tt rfl rfl rfl | exact Go.Mix.wanted_ff rfl rfl rfl); go_big_quiet_op; refine hK _ ?_; clear hK K) | (refine Go.Flo.fw_skip ?_ (fun K hK => ?_); (first | exact Go.Mix.wanted_tf rfl rfl rfl | exact Go.Mix.wanted_ft rfl rfl rfl); go_simp; refine hK _ ?_; clear hK K) | (refine Go.Flo.fw_any rfl ?_ (fun K hK => ?_); (first | exact Go.Mix.wanted_none rfl | exact Go.Mix.wanted_tt rfl rfl rfl | exact Go.Mix.wanted_ff rfl rfl rfl); go_simp; (try (go_ints; try go_simp)); refine hK _ ?_; clear hK K))
    (refine Go.Flo.fw_calm rfl ?_ (fun K hK => ?_); (first | exact Go.Mix.wanted_none rfl | exact Go.Mix.wanted_tt rfl rfl rfl | exact Go.Mix.wanted_ff rfl rfl rfl); refine Go.Flo.quiet_load_midT 67 _ rfl _ 7 rfl [.int .i8 (t 0), .int .i8 (t 1), .int .i8 (t 2), .int .i8 (t 3), .int .i8 (t 4), .int .i8 (t 5)] (by rintro _ ⟨i, rfl⟩; exact rgT (((HW.out i).block _ l3).trans b3)) Try.underlying67 rfl size_ch ?_; go_simp; refine hK _ ?_; clear hK K)
    (first | (refine Go.Flo.fw_calm rfl ?_ (fun K hK => ?_); (first | exact Go.Mix.wanted_none rfl | exact Go.Mix.wanted_tt rfl rfl rfl | exact Go.Mix.wanted_ff rfl rfl rfl); go_big_quiet_op; refine hK _ ?_; clear hK K) | (refine Go.Flo.fw_skip ?_ (fun K hK => ?_); (first | exact Go.Mix.wanted_tf rfl rfl rfl | exact Go.Mix.wanted_ft rfl rfl rfl); go_simp; refine hK _ ?_; clear hK K) | (refine Go.Flo.fw_any rfl ?_ (fun K hK => ?_); (first | exact Go.Mix.wanted_none rfl | exact Go.Mix.wanted_tt rfl rfl rfl | exact Go.Mix.wanted_ff rfl rfl rfl); go_simp; (try (go_ints; try go_simp)); refine hK _ ?_; clear hK K))
    (refine Go.Flo.fw_calm rfl ?_ (fun K hK => ?_); (first | exact Go.Mix.wanted_none rfl | exact Go.Mix.wanted_tt rfl rfl rfl | exact Go.Mix.wanted_ff rfl rfl rfl); refine Go.Flo.quiet_load_midT 67 _ rfl _ 1 rfl [.int .i8 (f 0), .int .i8 (f 1), .int .i8 (f 2), .int .i8 (f 3), .int .i8 (f 4), .int .i8 (f 5)] (by rintro _ ⟨i, rfl⟩; exact rgF (((HW.out i).block _ l3).trans b3)) Try.underlying67 rfl size_ch ?_; go_simp; refine hK _ ?_; clear hK K)
    refine Go.Flo.fw_loud rfl ?_ rfl (by simp) (fun wv hwv hav K hK => ?_) (fun v hv K hK => ?_)
    · (first | exact Go.Mix.wanted_none rfl | exact Go.Mix.wanted_tt rfl rfl rfl | exact Go.Mix.wanted_ff rfl rfl rfl)
    · obtain ⟨iv, rfl⟩ := hwv
      have hbv := HW.out iv
      (first | go_big_op | go_simp)
      go_at_call 80
      refine (only_tn t f _ HC.out.2 HC.out.1).mono ?_
      rintro e w' ⟨v, rfl, hown, hb⟩
      rw [← HO.out] at hown
      exact hK _ _ (owes_Z rfl hb hown (Nat.le_trans HS2.out.sz hbv.size))
    obtain ⟨xa, xc, rfl⟩ := ex_Z hv
    go_simp
    refine hK _ ?_
    clear hK K hv
    (first | (refine Go.Flo.fw_calm rfl ?_ (fun K hK => ?_); (first | exact Go.Mix.wanted_none rfl | exact Go.Mix.wanted_tt rfl rfl rfl | exact Go.Mix.wanted_ff rfl rfl rfl); go_big_quiet_op; refine hK _ ?_; clear hK K) | (refine Go.Flo.fw_skip ?_ (fun K hK => ?_); (first | exact Go.Mix.wanted_tf rfl rfl rfl | exact Go.Mix.wanted_ft rfl rfl rfl); go_simp; refine hK _ ?_; clear hK K) | (refine Go.Flo.fw_any rfl ?_ (fun K hK => ?_); (first | exact Go.Mix.wanted_none rfl | exact Go.Mix.wanted_tt rfl rfl rfl | exact Go.Mix.wanted_ff rfl rfl rfl); go_simp; (try (go_ints; try go_simp)); refine hK _ ?_; clear hK K))
    refine Go.Flo.fw_nil ?_
    intro w4 hww4 hfw4 huw4
    obtain ⟨iend, hiend⟩ := hww4
    have hbw4 := HW.out iend
    rw [← hiend] at hbw4
    clear hiend iend huw4
    have hown : w4.ownsRow B 3 1 (.slice xa (upTo o 16).length xc) (upTo o 16).length (zl (upTo o 16)) := ((hfw4 (some 25)).1.2 rfl).1
    have HW4 := Lib.hid hown
    have HS4 := Lib.hid (HS2.out.step hbw4)
    clear hown hfw4 HJ HW hne hbw4 b3 l3 HS2
    clear W I
    have b6 := HS4.out.b6
    have hf := HS4.out.fin #[.int .u8 0, .int .i8 (f 0), .int .i8 (f 1), .int .i8 (f 2), .int .i8 (f 3), .int .i8 (f 4), .int .i8 (f 5), .int .i8 (f 0), .int .i8 (f 1), .int .i8 (f 2), .int .i8 (f 3), .int .i8 (f 4), .int .i8 (f 5)] #[.slice none 0 0, .slice xa (upTo o 16).length xc, .bool false, .int .u16 ((q : Nat) : Int)]
    have b7 := hf.2.2.1
    have HF := Lib.hid hf
    clear hf
    refine ⟨fun _ => True, trivial, ?_⟩

    (repeat (first | (refine Go.Mix.walk_calm rfl ?_ (fun K hK => ?_); (first | exact Go.Mix.wanted_none rfl | exact Go.Mix.wanted_tt rfl rfl rfl | exact Go.Mix.wanted_ff rfl rfl rfl); go_big_quiet_op; refine hK _ ?_; clear hK K) | (refine Go.Mix.walk_skip ?_ (fun K hK => ?_); (first | exact Go.Mix.wanted_tf rfl rfl rfl | exact Go.Mix.wanted_ft rfl rfl rfl); go_simp; refine hK _ ?_; clear hK K) | (refine Go.Mix.walk_loud rfl ?_ (fun K hK => ?_); (first | exact Go.Mix.wanted_none rfl | exact Go.Mix.wanted_tt rfl rfl rfl | exact Go.Mix.wanted_ff rfl rfl rfl); (first | go_big_op | go_simp); (first | (refine hK _ _ trivial ?_; clear hK K) | (fail; (try dsimp only); refine hK _ _ trivial ?_; clear hK K))) | (refine Go.Mix.walk_step (fun K hK => ?_); go_simp; (try (go_ints; try go_simp)); refine hK _ _ ?_; clear hK K)))
    (refine Go.Mix.walk_loud rfl ?_ (fun K hK => ?_); (first | exact Go.Mix.wanted_none rfl | exact Go.Mix.wanted_tt rfl rfl rfl | exact Go.Mix.wanted_ff rfl rfl rfl); refine wp_store_row 96 _ _ rfl _ #[.int .u8 0, .int .i8 (f 0), .int .i8 (f 1), .int .i8 (f 2), .int .i8 (f 3), .int .i8 (f 4), .int .i8 (f 5), .int .i8 (f 0), .int .i8 (f 1), .int .i8 (f 2), .int .i8 (f 3), .int .i8 (f 4), .int .i8 (f 5)] rfl rfl 96 _ b6 size_tn rfl (by simp [Value.oneCell']) (hK _ _ trivial ?_); clear hK K)
    (repeat (first | (refine Go.Mix.walk_calm rfl ?_ (fun K hK => ?_); (first | exact Go.Mix.wanted_none rfl | exact Go.Mix.wanted_tt rfl rfl rfl | exact Go.Mix.wanted_ff rfl rfl rfl); go_big_quiet_op; refine hK _ ?_; clear hK K) | (refine Go.Mix.walk_skip ?_ (fun K hK => ?_); (first | exact Go.Mix.wanted_tf rfl rfl rfl | exact Go.Mix.wanted_ft rfl rfl rfl); go_simp; refine hK _ ?_; clear hK K) | (refine Go.Mix.walk_loud rfl ?_ (fun K hK => ?_); (first | exact Go.Mix.wanted_none rfl | exact Go.Mix.wanted_tt rfl rfl rfl | exact Go.Mix.wanted_ff rfl rfl rfl); (first | go_big_op | go_simp); (first | (refine hK _ _ trivial ?_; clear hK K) | (fail; (try dsimp only); refine hK _ _ trivial ?_; clear hK K))) | (refine Go.Mix.walk_step (fun K hK => ?_); go_simp; (try (go_ints; try go_simp)); refine hK _ _ ?_; clear hK K)))
    (refine Go.Mix.walk_loud rfl ?_ (fun K hK => ?_); (first | exact Go.Mix.wanted_none rfl | exact Go.Mix.wanted_tt rfl rfl rfl | exact Go.Mix.wanted_ff rfl rfl rfl); refine wp_store_row 98 _ _ rfl _ #[.slice none 0 0, .slice xa (upTo o 16).length xc, .bool false, .int .u16 ((q : Nat) : Int)] rfl rfl 98 _ b7 size_st rfl (by simp [Value.oneCell']) (hK _ _ trivial ?_); clear hK K)
    (repeat (first | (refine Go.Mix.walk_calm rfl ?_ (fun K hK => ?_); (first | exact Go.Mix.wanted_none rfl | exact Go.Mix.wanted_tt rfl rfl rfl | exact Go.Mix.wanted_ff rfl rfl rfl); go_big_quiet_op; refine hK _ ?_; clear hK K) | (refine Go.Mix.walk_skip ?_ (fun K hK => ?_); (first | exact Go.Mix.wanted_tf rfl rfl rfl | exact Go.Mix.wanted_ft rfl rfl rfl); go_simp; refine hK _ ?_; clear hK K) | (refine Go.Mix.walk_loud rfl ?_ (fun K hK => ?_); (first | exact Go.Mix.wanted_none rfl | exact Go.Mix.wanted_tt rfl rfl rfl | exact Go.Mix.wanted_ff rfl rfl rfl); (first | go_big_op | go_simp); (first | (refine hK _ _ trivial ?_; clear hK K) | (fail; (try dsimp only); refine hK _ _ trivial ?_; clear hK K))) | (refine Go.Mix.walk_step (fun K hK => ?_); go_simp; (try (go_ints; try go_simp)); refine hK _ _ ?_; clear hK K)))
    refine Go.Mix.walk_nil ?_
    go_wp2_with fail
    refine bodyPost_ret (res_cc rfl _ _ _ _ _ _ _ _ _ _ rfl rfl HF.out.1 HF.out.2.1 Try.underlying96 rfl (by exact size_tn) Try.underlying98 rfl (by exact size_st)) rfl ?_
    refine ⟨_, by rw [HR0.out, ← HO.out], ?_, HF.out.2.2.2⟩
    rw [HR0.out, ← HO.out]
    exact own_baseZ (own_setRowT (own_setRowT HW4.out HS4.out.l6 _) HS4.out.l7 _) HS4.out.lb
def nxtR (p : Int) (f t : Nat → Int) (wk ls : Nat) : Nx :=
  if p = 1 then powR f t wk ls else if p = 2 then ⟨3, f, t, 0, false, 0⟩ else if p = 3 then ⟨0, t, t, onlyS f t, true, 0⟩ else ⟨p, f, t, 0, false, 0⟩
set_option maxRecDepth 100000 in
set_option maxHeartbeats 4000000 in
theorem Next_tn (p : Int) (f t : Nat → Int) (wk ls : Nat) (w : World) (hf : ChOk f) (ht : ChOk t) (hwk : wk < 65536) (hls : ls < 65536) : Calls Try.prog 47 #[.agg #[.int .u8 p, .int .i8 (f 0), .int .i8 (f 1), .int .i8 (f 2), .int .i8 (f 3), .int .i8 (f 4), .int .i8 (f 5), .int .i8 (t 0), .int .i8 (t 1), .int .i8 (t 2), .int .i8 (t 3), .int .i8 (t 4), .int .i8 (t 5)], .int .u16 (wk : Nat), .int .u16 (ls : Nat)] w (NxPost w (nxtR p f t wk ls)) := by
  have hS := T3.new w p f t
  have hzt := zero_tn
  have hzs := zero_st
  have HC := Lib.hid (And.intro hf ht)
  have HR := Lib.hid (show nxtR p f t wk ls = _ from rfl)
  unfold nxtR at HR
  obtain ⟨res, hres⟩ : ∃ r, r = nxtR p f t wk ls := ⟨_, rfl⟩
  have hr : res = if p = 1 then powR f t wk ls else if p = 2 then ⟨3, f, t, 0, false, 0⟩ else if p = 3 then ⟨0, t, t, onlyS f t, true, 0⟩ else ⟨p, f, t, 0, false, 0⟩ := hres
  rw [← hres]
  clear hf ht HR hres
  by_cases p1 : p = 1
  · rw [if_pos p1] at hr
    have hpw : ∀ w, Calls Try.prog 78 #[.agg #[.int .u8 p, .int .i8 (f 0), .int .i8 (f 1), .int .i8 (f 2), .int .i8 (f 3), .int .i8 (f 4), .int .i8 (f 5), .int .i8 (t 0), .int .i8 (t 1), .int .i8 (t 2), .int .i8 (t 3), .int .i8 (t 4), .int .i8 (t 5)], .int .u16 (wk : Nat), .int .u16 (ls : Nat)] w (NxPost w res) := fun w => by
      rw [p1, hr]
      exact power_any f t wk ls w HC.out.1 HC.out.2 hwk hls
    have q1 : (p == 1) = true := by simp [p1]
    have HPW := Lib.hid hpw
    clear hpw hr p1
    skip
    go_enter Try.func47, Try.ntmps47
    go_upto_region 1 with fail
    obtain ⟨w1, hw1⟩ : ∃ w1, w1 = (((w.alloc (.cells #[.int .u8 p, .int .i8 (f 0), .int .i8 (f 1), .int .i8 (f 2), .int .i8 (f 3), .int .i8 (f 4), .int .i8 (f 5), .int .i8 (t 0), .int .i8 (t 1), .int .i8 (t 2), .int .i8 (t 3), .int .i8 (t 4), .int .i8 (t 5)] 96)).alloc (.cells #[.int .u8 0, .int .i8 0, .int .i8 0, .int .i8 0, .int .i8 0, .int .i8 0, .int .i8 0, .int .i8 0, .int .i8 0, .int .i8 0, .int .i8 0, .int .i8 0, .int .i8 0] 96)).alloc (.cells #[.slice none 0 0, .slice none 0 0, .bool false, .int .u16 0] 98)) := ⟨_, rfl⟩
    rw [← hw1] at hS ⊢
    obtain ⟨B, hB⟩ : ∃ g, g = w.heap.size + 1 + 1 + 1 := ⟨_, rfl⟩
    rw [← hB] at hS
    obtain ⟨g7, hg7⟩ : ∃ g, g = w.heap.size + 1 + 1 := ⟨_, rfl⟩
    rw [← hg7] at hS ⊢
    obtain ⟨g6, hg6⟩ : ∃ g, g = w.heap.size + 1 := ⟨_, rfl⟩
    rw [← hg6] at hS ⊢
    obtain ⟨g3, hg3⟩ : ∃ g, g = w.heap.size := ⟨_, rfl⟩
    rw [show (Value.pointer (some ⟨w.heap.size, 0, none⟩)) = .pointer (some ⟨g3, 0, none⟩) by rw [hg3]]
    have hS : T3 w w1 g3 g6 g7 B p f t := by rw [hg3]; exact hS
    have HS := Lib.hid hS
    clear hS hw1 hB hg7 hg6 hg3
    have c0 := ldTp HS.out.b3
    go_upto_region 3 with fail
    have b3 := HS.out.b3
    go_wp2_with (((with_reducible show wpList _ _ _ (_ :: _) _ _); refine wpList_load_row rfl 96 _ rfl _ rfl _ _ _ _ b3 Try.underlying96 rfl (by exact size_tn) ?_; (try go_simp)))
    go_at_call 78
    refine (HPW.out w1).mono ?_
    rintro e w2 ⟨v, rfl, hown, hb⟩
    have HS2 := Lib.hid (HS.out.step hb)
    have HO := Lib.hid (own_baseZ hown HS.out.sz)
    obtain ⟨a, c, rfl⟩ := own_formZ hown
    clear hown hb HS b3 c0
    have b6 := HS2.out.b6
    have hf := HS2.out.fin #[.int .u8 res.p, .int .i8 (res.f 0), .int .i8 (res.f 1), .int .i8 (res.f 2), .int .i8 (res.f 3), .int .i8 (res.f 4), .int .i8 (res.f 5), .int .i8 (res.t 0), .int .i8 (res.t 1), .int .i8 (res.t 2), .int .i8 (res.t 3), .int .i8 (res.t 4), .int .i8 (res.t 5)] #[.slice none 0 0, .slice a (upTo res.o 16).length c, .bool res.d, .int .u16 ((res.q : Nat) : Int)]
    have b7 := hf.2.2.1
    have HF := Lib.hid hf
    clear hf
    go_wp2_with (first | ((with_reducible show wpList _ _ _ (_ :: _) _ _); refine wpList_store_row rfl 96 _ _ rfl _ _ rfl rfl _ _ b6 (by exact size_tn) (by rfl) (by simp [Value.oneCell']) ?_) | ((with_reducible show wpList _ _ _ (_ :: _) _ _); refine wpList_store_row rfl 98 _ _ rfl _ _ rfl rfl _ _ b7 (by exact size_st) (by rfl) (by simp [Value.oneCell']) ?_))
    refine bodyPost_ret (res_cc rfl _ _ _ _ _ _ _ _ _ _ rfl rfl HF.out.1 HF.out.2.1 Try.underlying96 rfl (by exact size_tn) Try.underlying98 rfl (by exact size_st)) rfl ?_
    exact ⟨_, rfl, own_baseZ (own_setRowT (own_setRowT HO.out HS2.out.l6 _) HS2.out.l7 _) HS2.out.lb, HF.out.2.2.2⟩
  · rw [if_neg p1] at hr
    have q1 : (p == 1) = false := by simp [p1]
    by_cases p2 : p = 2
    · rw [if_pos p2] at hr
      have q2 : (p == 2) = true := by simp [p2]
      have HR := Lib.hid hr
      clear hr p2 p1
      skip
      go_enter Try.func47, Try.ntmps47
      go_upto_region 1 with fail
      obtain ⟨w1, hw1⟩ : ∃ w1, w1 = (((w.alloc (.cells #[.int .u8 p, .int .i8 (f 0), .int .i8 (f 1), .int .i8 (f 2), .int .i8 (f 3), .int .i8 (f 4), .int .i8 (f 5), .int .i8 (t 0), .int .i8 (t 1), .int .i8 (t 2), .int .i8 (t 3), .int .i8 (t 4), .int .i8 (t 5)] 96)).alloc (.cells #[.int .u8 0, .int .i8 0, .int .i8 0, .int .i8 0, .int .i8 0, .int .i8 0, .int .i8 0, .int .i8 0, .int .i8 0, .int .i8 0, .int .i8 0, .int .i8 0, .int .i8 0] 96)).alloc (.cells #[.slice none 0 0, .slice none 0 0, .bool false, .int .u16 0] 98)) := ⟨_, rfl⟩
      rw [← hw1] at hS ⊢
      obtain ⟨B, hB⟩ : ∃ g, g = w.heap.size + 1 + 1 + 1 := ⟨_, rfl⟩
      rw [← hB] at hS
      obtain ⟨g7, hg7⟩ : ∃ g, g = w.heap.size + 1 + 1 := ⟨_, rfl⟩
      rw [← hg7] at hS ⊢
      obtain ⟨g6, hg6⟩ : ∃ g, g = w.heap.size + 1 := ⟨_, rfl⟩
      rw [← hg6] at hS ⊢
      obtain ⟨g3, hg3⟩ : ∃ g, g = w.heap.size := ⟨_, rfl⟩
      rw [show (Value.pointer (some ⟨w.heap.size, 0, none⟩)) = .pointer (some ⟨g3, 0, none⟩) by rw [hg3]]
      have hS : T3 w w1 g3 g6 g7 B p f t := by rw [hg3]; exact hS
      have HS := Lib.hid hS
      clear hS hw1 hB hg7 hg6 hg3
      have c0 := ldTp HS.out.b3
      have fz := frozen_of_row _ g3 0 _ _ HS.out.b3
      go_upto_region 8 with fail
      have HS3 := Lib.hid (HS.out.phase 3)
      clear c0 fz
      obtain ⟨w5, hw5⟩ : ∃ w5, w5 = w1.setCell ⟨g3, 0, none⟩ (.int .u8 3) := ⟨_, rfl⟩
      rw [← hw5] at HS3 ⊢
      clear hw5 HS
      skip
      have b3 := HS3.out.b3
      have b6 := HS3.out.b6
      have b7 := (HS3.out.fin #[.int .u8 3, .int .i8 (f 0), .int .i8 (f 1), .int .i8 (f 2), .int .i8 (f 3), .int .i8 (f 4), .int .i8 (f 5), .int .i8 (t 0), .int .i8 (t 1), .int .i8 (t 2), .int .i8 (t 3), .int .i8 (t 4), .int .i8 (t 5)] #[.slice none 0 0, .slice none 0 0, .bool false, .int .u16 0]).2.2.1
      have HF := Lib.hid (HS3.out.fin #[.int .u8 3, .int .i8 (f 0), .int .i8 (f 1), .int .i8 (f 2), .int .i8 (f 3), .int .i8 (f 4), .int .i8 (f 5), .int .i8 (t 0), .int .i8 (t 1), .int .i8 (t 2), .int .i8 (t 3), .int .i8 (t 4), .int .i8 (t 5)] #[.slice none 0 0, .slice none 0 0, .bool false, .int .u16 0])
      go_wp2_with (first | ((with_reducible show wpList _ _ _ (_ :: _) _ _); refine wpList_load_row rfl 96 _ rfl _ rfl _ _ _ _ b3 Try.underlying96 rfl (by exact size_tn) ?_; (try go_simp)) | ((with_reducible show wpList _ _ _ (_ :: _) _ _); refine wpList_store_row rfl 96 _ _ rfl _ _ rfl rfl _ _ b6 (by exact size_tn) (by rfl) (by simp [Value.oneCell']) ?_) | ((with_reducible show wpList _ _ _ (_ :: _) _ _); refine wpList_store_row rfl 98 _ _ rfl _ _ rfl rfl _ _ b7 (by exact size_st) (by rfl) (by simp [Value.oneCell']) ?_))
      refine bodyPost_ret (res_cc rfl _ _ _ _ _ _ _ _ _ _ rfl rfl HF.out.1 HF.out.2.1 Try.underlying96 rfl (by exact size_tn) Try.underlying98 rfl (by exact size_st)) rfl ?_
      exact ⟨_, by rw [HR.out]; rfl, (by rw [HR.out]; exact own_noneT _ _), HF.out.2.2.2⟩
    · rw [if_neg p2] at hr
      have q2 : (p == 2) = false := by simp [p2]
      by_cases p3 : p = 3
      · rw [if_pos p3] at hr
        have q3 : (p == 3) = true := by simp [p3]
        obtain ⟨o, ho⟩ : ∃ o, o = onlyS f t := ⟨_, rfl⟩
        rw [← ho] at hr
        have HR0 := Lib.hid hr
        have HO := Lib.hid ho
        clear hr p1 p2 p3 ho
        skip
        go_enter Try.func47, Try.ntmps47
        go_upto_region 1 with fail
        obtain ⟨w1, hw1⟩ : ∃ w1, w1 = (((w.alloc (.cells #[.int .u8 p, .int .i8 (f 0), .int .i8 (f 1), .int .i8 (f 2), .int .i8 (f 3), .int .i8 (f 4), .int .i8 (f 5), .int .i8 (t 0), .int .i8 (t 1), .int .i8 (t 2), .int .i8 (t 3), .int .i8 (t 4), .int .i8 (t 5)] 96)).alloc (.cells #[.int .u8 0, .int .i8 0, .int .i8 0, .int .i8 0, .int .i8 0, .int .i8 0, .int .i8 0, .int .i8 0, .int .i8 0, .int .i8 0, .int .i8 0, .int .i8 0, .int .i8 0] 96)).alloc (.cells #[.slice none 0 0, .slice none 0 0, .bool false, .int .u16 0] 98)) := ⟨_, rfl⟩
        rw [← hw1] at hS ⊢
        obtain ⟨B, hB⟩ : ∃ g, g = w.heap.size + 1 + 1 + 1 := ⟨_, rfl⟩
        rw [← hB] at hS
        obtain ⟨g7, hg7⟩ : ∃ g, g = w.heap.size + 1 + 1 := ⟨_, rfl⟩
        rw [← hg7] at hS ⊢
        obtain ⟨g6, hg6⟩ : ∃ g, g = w.heap.size + 1 := ⟨_, rfl⟩
        rw [← hg6] at hS ⊢
        obtain ⟨g3, hg3⟩ : ∃ g, g = w.heap.size := ⟨_, rfl⟩
        rw [show (Value.pointer (some ⟨w.heap.size, 0, none⟩)) = .pointer (some ⟨g3, 0, none⟩) by rw [hg3]]
        have hS : T3 w w1 g3 g6 g7 B p f t := by rw [hg3]; exact hS
        have HS := Lib.hid hS
        clear hS hw1 hB hg7 hg6 hg3
        have c0 := ldTp HS.out.b3
        go_upto_region 7 with fail
        have b3 := HS.out.b3
        have l3 := box_lt b3
        obtain ⟨I, W, hne, hWI, hIW⟩ := Go.Mix.family (fun v => Below w1.heap.size w1 v) (Below.refl _ _)
        have HJ := Lib.hid hIW
        have HW := Lib.hid hWI
        clear hWI hIW
        refine Go.Flo3.wp_region (fun w' => ∃ i, w' = W i) 8 [Go.Flo.Spec.is (.agg #[.int .u8 0, .int .i8 (t 0), .int .i8 (t 1), .int .i8 (t 2), .int .i8 (t 3), .int .i8 (t 4), .int .i8 (t 5), .int .i8 (t 0), .int .i8 (t 1), .int .i8 (t 2), .int .i8 (t 3), .int .i8 (t 4), .int .i8 (t 5)]), SpZ B (upTo o 16)] (by kernel_rfl) (by kernel_rfl) (by decide) (by rintro _ w' ⟨i, rfl⟩ hb; exact HJ.out _ ((HW.out i).trans (hb.mono (HW.out i).size))) (HJ.out _ (Below.refl _ _).drew) ?_
        simp only [Go.Flo.pair, Go.Mix.calm, List.take, List.drop, if_true, Bool.false_eq_true, if_false, Nat.reduceAdd, Nat.reduceSub]
        (first | (refine Go.Flo.fw_calm rfl ?_ (fun K hK => ?_); (first | exact Go.Mix.wanted_none rfl | exact Go.Mix.wanted_tt rfl rfl rfl | exact Go.Mix.wanted_ff rfl rfl rfl); go_big_quiet_op; refine hK _ ?_; clear hK K) | (refine Go.Flo.fw_skip ?_ (fun K hK => ?_); (first | exact Go.Mix.wanted_tf rfl rfl rfl | exact Go.Mix.wanted_ft rfl rfl rfl); go_simp; refine hK _ ?_; clear hK K) | (refine Go.Flo.fw_any rfl ?_ (fun K hK => ?_); (first | exact Go.Mix.wanted_none rfl | exact Go.Mix.wanted_tt rfl rfl rfl | exact Go.Mix.wanted_ff rfl rfl rfl); go_simp; (try (go_ints; try go_simp)); refine hK _ ?_; clear hK K))
        (refine Go.Flo.fw_calm rfl ?_ (fun K hK => ?_); (first | exact Go.Mix.wanted_none rfl | exact Go.Mix.wanted_tt rfl rfl rfl | exact Go.Mix.wanted_ff rfl rfl rfl); refine Go.Flo.quiet_load_midT 67 _ rfl _ 7 rfl [.int .i8 (t 0), .int .i8 (t 1), .int .i8 (t 2), .int .i8 (t 3), .int .i8 (t 4), .int .i8 (t 5)] (by rintro _ ⟨i, rfl⟩; exact rgT (((HW.out i).block _ l3).trans b3)) Try.underlying67 rfl size_ch ?_; go_simp; refine hK _ ?_; clear hK K)
        refine Go.Flo.fw_loud rfl ?_ rfl (by simp) (fun wv hwv hav K hK => ?_) (fun v hv K hK => ?_)
        · (first | exact Go.Mix.wanted_none rfl | exact Go.Mix.wanted_tt rfl rfl rfl | exact Go.Mix.wanted_ff rfl rfl rfl)
        · obtain ⟨iv, rfl⟩ := hwv
          have hbv := HW.out iv
          (first | go_big_op | go_simp)
          go_at_call 79
          refine (idle_any t _).mono ?_
          rintro e w' ⟨rfl, hb⟩
          exact hK _ _ (Go.Flo.owes_is _ rfl hb)
        obtain rfl := hv.is
        go_simp
        refine hK _ ?_
        clear hK K hv
        (first | (refine Go.Flo.fw_calm rfl ?_ (fun K hK => ?_); (first | exact Go.Mix.wanted_none rfl | exact Go.Mix.wanted_tt rfl rfl rfl | exact Go.Mix.wanted_ff rfl rfl rfl); go_big_quiet_op; refine hK _ ?_; clear hK K) | (refine Go.Flo.fw_skip ?_ (fun K hK => ?_); (first | exact Go.Mix.wanted_tf rfl rfl rfl | exact Go.Mix.wanted_ft rfl rfl rfl); go_simp; refine hK _ ?_; clear hK K) | (refine Go.Flo.fw_any rfl ?_ (fun K hK => ?_); (first | exact Go.Mix.wanted_none rfl | exact Go.Mix.wanted_tt rfl rfl rfl | exact Go.Mix.wanted_ff rfl rfl rfl); go_simp; (try (go_ints; try go_simp)); refine hK _ ?_; clear hK K))
        (refine Go.Flo.fw_calm rfl ?_ (fun K hK => ?_); (first | exact Go.Mix.wanted_none rfl | exact Go.Mix.wanted_tt rfl rfl rfl | exact Go.Mix.wanted_ff rfl rfl rfl); refine Go.Flo.quiet_load_midT 67 _ rfl _ 1 rfl [.int .i8 (f 0), .int .i8 (f 1), .int .i8 (f 2), .int .i8 (f 3), .int .i8 (f 4), .int .i8 (f 5)] (by rintro _ ⟨i, rfl⟩; exact rgF (((HW.out i).block _ l3).trans b3)) Try.underlying67 rfl size_ch ?_; go_simp; refine hK _ ?_; clear hK K)
        (first | (refine Go.Flo.fw_calm rfl ?_ (fun K hK => ?_); (first | exact Go.Mix.wanted_none rfl | exact Go.Mix.wanted_tt rfl rfl rfl | exact Go.Mix.wanted_ff rfl rfl rfl); go_big_quiet_op; refine hK _ ?_; clear hK K) | (refine Go.Flo.fw_skip ?_ (fun K hK => ?_); (first | exact Go.Mix.wanted_tf rfl rfl rfl | exact Go.Mix.wanted_ft rfl rfl rfl); go_simp; refine hK _ ?_; clear hK K) | (refine Go.Flo.fw_any rfl ?_ (fun K hK => ?_); (first | exact Go.Mix.wanted_none rfl | exact Go.Mix.wanted_tt rfl rfl rfl | exact Go.Mix.wanted_ff rfl rfl rfl); go_simp; (try (go_ints; try go_simp)); refine hK _ ?_; clear hK K))
        (refine Go.Flo.fw_calm rfl ?_ (fun K hK => ?_); (first | exact Go.Mix.wanted_none rfl | exact Go.Mix.wanted_tt rfl rfl rfl | exact Go.Mix.wanted_ff rfl rfl rfl); refine Go.Flo.quiet_load_midT 67 _ rfl _ 7 rfl [.int .i8 (t 0), .int .i8 (t 1), .int .i8 (t 2), .int .i8 (t 3), .int .i8 (t 4), .int .i8 (t 5)] (by rintro _ ⟨i, rfl⟩; exact rgT (((HW.out i).block _ l3).trans b3)) Try.underlying67 rfl size_ch ?_; go_simp; refine hK _ ?_; clear hK K)
        refine Go.Flo.fw_loud rfl ?_ rfl (by simp) (fun wv hwv hav K hK => ?_) (fun v hv K hK => ?_)
        · (first | exact Go.Mix.wanted_none rfl | exact Go.Mix.wanted_tt rfl rfl rfl | exact Go.Mix.wanted_ff rfl rfl rfl)
        · obtain ⟨iv, rfl⟩ := hwv
          have hbv := HW.out iv
          (first | go_big_op | go_simp)
          go_at_call 80
          refine (only_tn f t _ HC.out.1 HC.out.2).mono ?_
          rintro e w' ⟨v, rfl, hown, hb⟩
          rw [← HO.out] at hown
          exact hK _ _ (owes_Z rfl hb hown (Nat.le_trans HS.out.sz hbv.size))
        obtain ⟨xa, xc, rfl⟩ := ex_Z hv
        go_simp
        refine hK _ ?_
        clear hK K hv
        refine Go.Flo.fw_nil ?_
        intro w4 hww4 hfw4 huw4
        obtain ⟨iend, hiend⟩ := hww4
        have hbw4 := HW.out iend
        rw [← hiend] at hbw4
        clear hiend iend huw4
        have hown : w4.ownsRow B 3 1 (.slice xa (upTo o 16).length xc) (upTo o 16).length (zl (upTo o 16)) := ((hfw4 (some 30)).2 rfl).1
        have HW4 := Lib.hid hown
        have HS4 := Lib.hid (HS.out.step hbw4)
        clear hown hfw4 HJ HW hne hbw4 b3 l3 HS c0
        clear W I
        have b6 := HS4.out.b6
        have hf := HS4.out.fin #[.int .u8 0, .int .i8 (t 0), .int .i8 (t 1), .int .i8 (t 2), .int .i8 (t 3), .int .i8 (t 4), .int .i8 (t 5), .int .i8 (t 0), .int .i8 (t 1), .int .i8 (t 2), .int .i8 (t 3), .int .i8 (t 4), .int .i8 (t 5)] #[.slice none 0 0, .slice xa (upTo o 16).length xc, .bool true, .int .u16 ((0 : Nat) : Int)]
        have b7 := hf.2.2.1
        have HF := Lib.hid hf
        clear hf
        refine ⟨fun _ => True, trivial, ?_⟩

        (repeat (first | (refine Go.Mix.walk_calm rfl ?_ (fun K hK => ?_); (first | exact Go.Mix.wanted_none rfl | exact Go.Mix.wanted_tt rfl rfl rfl | exact Go.Mix.wanted_ff rfl rfl rfl); go_big_quiet_op; refine hK _ ?_; clear hK K) | (refine Go.Mix.walk_skip ?_ (fun K hK => ?_); (first | exact Go.Mix.wanted_tf rfl rfl rfl | exact Go.Mix.wanted_ft rfl rfl rfl); go_simp; refine hK _ ?_; clear hK K) | (refine Go.Mix.walk_loud rfl ?_ (fun K hK => ?_); (first | exact Go.Mix.wanted_none rfl | exact Go.Mix.wanted_tt rfl rfl rfl | exact Go.Mix.wanted_ff rfl rfl rfl); (first | go_big_op | go_simp); (first | (refine hK _ _ trivial ?_; clear hK K) | (fail; (try dsimp only); refine hK _ _ trivial ?_; clear hK K))) | (refine Go.Mix.walk_step (fun K hK => ?_); go_simp; (try (go_ints; try go_simp)); refine hK _ _ ?_; clear hK K)))
        (refine Go.Mix.walk_loud rfl ?_ (fun K hK => ?_); (first | exact Go.Mix.wanted_none rfl | exact Go.Mix.wanted_tt rfl rfl rfl | exact Go.Mix.wanted_ff rfl rfl rfl); refine wp_store_row 96 _ _ rfl _ #[.int .u8 0, .int .i8 (t 0), .int .i8 (t 1), .int .i8 (t 2), .int .i8 (t 3), .int .i8 (t 4), .int .i8 (t 5), .int .i8 (t 0), .int .i8 (t 1), .int .i8 (t 2), .int .i8 (t 3), .int .i8 (t 4), .int .i8 (t 5)] rfl rfl 96 _ b6 size_tn rfl (by simp [Value.oneCell']) (hK _ _ trivial ?_); clear hK K)
        (repeat (first | (refine Go.Mix.walk_calm rfl ?_ (fun K hK => ?_); (first | exact Go.Mix.wanted_none rfl | exact Go.Mix.wanted_tt rfl rfl rfl | exact Go.Mix.wanted_ff rfl rfl rfl); go_big_quiet_op; refine hK _ ?_; clear hK K) | (refine Go.Mix.walk_skip ?_ (fun K hK => ?_); (first | exact Go.Mix.wanted_tf rfl rfl rfl | exact Go.Mix.wanted_ft rfl rfl rfl); go_simp; refine hK _ ?_; clear hK K) | (refine Go.Mix.walk_loud rfl ?_ (fun K hK => ?_); (first | exact Go.Mix.wanted_none rfl | exact Go.Mix.wanted_tt rfl rfl rfl | exact Go.Mix.wanted_ff rfl rfl rfl); (first | go_big_op | go_simp); (first | (refine hK _ _ trivial ?_; clear hK K) | (fail; (try dsimp only); refine hK _ _ trivial ?_; clear hK K))) | (refine Go.Mix.walk_step (fun K hK => ?_); go_simp; (try (go_ints; try go_simp)); refine hK _ _ ?_; clear hK K)))
        (refine Go.Mix.walk_loud rfl ?_ (fun K hK => ?_); (first | exact Go.Mix.wanted_none rfl | exact Go.Mix.wanted_tt rfl rfl rfl | exact Go.Mix.wanted_ff rfl rfl rfl); refine wp_store_row 98 _ _ rfl _ #[.slice none 0 0, .slice xa (upTo o 16).length xc, .bool true, .int .u16 ((0 : Nat) : Int)] rfl rfl 98 _ b7 size_st rfl (by simp [Value.oneCell']) (hK _ _ trivial ?_); clear hK K)
        (repeat (first | (refine Go.Mix.walk_calm rfl ?_ (fun K hK => ?_); (first | exact Go.Mix.wanted_none rfl | exact Go.Mix.wanted_tt rfl rfl rfl | exact Go.Mix.wanted_ff rfl rfl rfl); go_big_quiet_op; refine hK _ ?_; clear hK K) | (refine Go.Mix.walk_skip ?_ (fun K hK => ?_); (first | exact Go.Mix.wanted_tf rfl rfl rfl | exact Go.Mix.wanted_ft rfl rfl rfl); go_simp; refine hK _ ?_; clear hK K) | (refine Go.Mix.walk_loud rfl ?_ (fun K hK => ?_); (first | exact Go.Mix.wanted_none rfl | exact Go.Mix.wanted_tt rfl rfl rfl | exact Go.Mix.wanted_ff rfl rfl rfl); (first | go_big_op | go_simp); (first | (refine hK _ _ trivial ?_; clear hK K) | (fail; (try dsimp only); refine hK _ _ trivial ?_; clear hK K))) | (refine Go.Mix.walk_step (fun K hK => ?_); go_simp; (try (go_ints; try go_simp)); refine hK _ _ ?_; clear hK K)))
        refine Go.Mix.walk_nil ?_
        go_wp2_with fail
        refine bodyPost_ret (res_cc rfl _ _ _ _ _ _ _ _ _ _ rfl rfl HF.out.1 HF.out.2.1 Try.underlying96 rfl (by exact size_tn) Try.underlying98 rfl (by exact size_st)) rfl ?_
        refine ⟨_, by rw [HR0.out], ?_, HF.out.2.2.2⟩
        rw [HR0.out]
        exact own_baseZ (own_setRowT (own_setRowT HW4.out HS4.out.l6 _) HS4.out.l7 _) HS4.out.lb
      · rw [if_neg p3] at hr
        have q3 : (p == 3) = false := by simp [p3]
        have HR := Lib.hid hr
        clear hr p1 p2 p3
        skip
        go_enter Try.func47, Try.ntmps47
        go_upto_region 1 with fail
        obtain ⟨w1, hw1⟩ : ∃ w1, w1 = (((w.alloc (.cells #[.int .u8 p, .int .i8 (f 0), .int .i8 (f 1), .int .i8 (f 2), .int .i8 (f 3), .int .i8 (f 4), .int .i8 (f 5), .int .i8 (t 0), .int .i8 (t 1), .int .i8 (t 2), .int .i8 (t 3), .int .i8 (t 4), .int .i8 (t 5)] 96)).alloc (.cells #[.int .u8 0, .int .i8 0, .int .i8 0, .int .i8 0, .int .i8 0, .int .i8 0, .int .i8 0, .int .i8 0, .int .i8 0, .int .i8 0, .int .i8 0, .int .i8 0, .int .i8 0] 96)).alloc (.cells #[.slice none 0 0, .slice none 0 0, .bool false, .int .u16 0] 98)) := ⟨_, rfl⟩
        rw [← hw1] at hS ⊢
        obtain ⟨B, hB⟩ : ∃ g, g = w.heap.size + 1 + 1 + 1 := ⟨_, rfl⟩
        rw [← hB] at hS
        obtain ⟨g7, hg7⟩ : ∃ g, g = w.heap.size + 1 + 1 := ⟨_, rfl⟩
        rw [← hg7] at hS ⊢
        obtain ⟨g6, hg6⟩ : ∃ g, g = w.heap.size + 1 := ⟨_, rfl⟩
        rw [← hg6] at hS ⊢
        obtain ⟨g3, hg3⟩ : ∃ g, g = w.heap.size := ⟨_, rfl⟩
        rw [show (Value.pointer (some ⟨w.heap.size, 0, none⟩)) = .pointer (some ⟨g3, 0, none⟩) by rw [hg3]]
        have hS : T3 w w1 g3 g6 g7 B p f t := by rw [hg3]; exact hS
        have HS := Lib.hid hS
        clear hS hw1 hB hg7 hg6 hg3
        have c0 := ldTp HS.out.b3
        go_upto_region 8 with fail
        clear c0
        skip
        have b3 := HS.out.b3
        have b6 := HS.out.b6
        have b7 := (HS.out.fin #[.int .u8 p, .int .i8 (f 0), .int .i8 (f 1), .int .i8 (f 2), .int .i8 (f 3), .int .i8 (f 4), .int .i8 (f 5), .int .i8 (t 0), .int .i8 (t 1), .int .i8 (t 2), .int .i8 (t 3), .int .i8 (t 4), .int .i8 (t 5)] #[.slice none 0 0, .slice none 0 0, .bool false, .int .u16 0]).2.2.1
        have HF := Lib.hid (HS.out.fin #[.int .u8 p, .int .i8 (f 0), .int .i8 (f 1), .int .i8 (f 2), .int .i8 (f 3), .int .i8 (f 4), .int .i8 (f 5), .int .i8 (t 0), .int .i8 (t 1), .int .i8 (t 2), .int .i8 (t 3), .int .i8 (t 4), .int .i8 (t 5)] #[.slice none 0 0, .slice none 0 0, .bool false, .int .u16 0])
        go_wp2_with (first | ((with_reducible show wpList _ _ _ (_ :: _) _ _); refine wpList_load_row rfl 96 _ rfl _ rfl _ _ _ _ b3 Try.underlying96 rfl (by exact size_tn) ?_; (try go_simp)) | ((with_reducible show wpList _ _ _ (_ :: _) _ _); refine wpList_store_row rfl 96 _ _ rfl _ _ rfl rfl _ _ b6 (by exact size_tn) (by rfl) (by simp [Value.oneCell']) ?_) | ((with_reducible show wpList _ _ _ (_ :: _) _ _); refine wpList_store_row rfl 98 _ _ rfl _ _ rfl rfl _ _ b7 (by exact size_st) (by rfl) (by simp [Value.oneCell']) ?_))
        refine bodyPost_ret (res_cc rfl _ _ _ _ _ _ _ _ _ _ rfl rfl HF.out.1 HF.out.2.1 Try.underlying96 rfl (by exact size_tn) Try.underlying98 rfl (by exact size_st)) rfl ?_
        exact ⟨_, by rw [HR.out]; rfl, (by rw [HR.out]; exact own_noneT _ _), HF.out.2.2.2⟩
end Go.Proofs.Ytboojcahflkkmaa
