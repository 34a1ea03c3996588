/- Layer 20: Start. -/
import Derived.Test.YtboojcahflkkmaaTn6
namespace Go.Proofs.Ytboojcahflkkmaa
open Go.RowKit Go.Own Bs
set_option linter.unusedVariables false
set_option linter.unusedSimpArgs false
theorem T3.newS (w : World) (p : Int) (f t dd : Nat → Int) : T3 w ((((w.alloc (.cells #[.int .u8 p, .int .i8 (f 0), .int .i8 (f 1), .int .i8 (f 2), .int .i8 (f 3), .int .i8 (f 4), .int .i8 (f 5), .int .i8 (t 0), .int .i8 (t 1), .int .i8 (t 2), .int .i8 (t 3), .int .i8 (t 4), .int .i8 (t 5)] 96)).alloc (.cells #[.int .i8 (dd 0), .int .i8 (dd 1), .int .i8 (dd 2), .int .i8 (dd 3), .int .i8 (dd 4), .int .i8 (dd 5)] 67)).alloc (.cells #[.int .u8 0, .int .i8 0, .int .i8 0, .int .i8 0, .int .i8 0, .int .i8 0, .int .i8 0, .int .i8 0, .int .i8 0, .int .i8 0, .int .i8 0, .int .i8 0, .int .i8 0] 96)).alloc (.cells #[.slice none 0 0, .slice none 0 0, .bool false, .int .u16 0] 98)) w.heap.size (w.heap.size + 1 + 1) (w.heap.size + 1 + 1 + 1) (w.heap.size + 1 + 1 + 1 + 1) p f t ∧ ((((w.alloc (.cells #[.int .u8 p, .int .i8 (f 0), .int .i8 (f 1), .int .i8 (f 2), .int .i8 (f 3), .int .i8 (f 4), .int .i8 (f 5), .int .i8 (t 0), .int .i8 (t 1), .int .i8 (t 2), .int .i8 (t 3), .int .i8 (t 4), .int .i8 (t 5)] 96)).alloc (.cells #[.int .i8 (dd 0), .int .i8 (dd 1), .int .i8 (dd 2), .int .i8 (dd 3), .int .i8 (dd 4), .int .i8 (dd 5)] 67)).alloc (.cells #[.int .u8 0, .int .i8 0, .int .i8 0, .int .i8 0, .int .i8 0, .int .i8 0, .int .i8 0, .int .i8 0, .int .i8 0, .int .i8 0, .int .i8 0, .int .i8 0, .int .i8 0] 96)).alloc (.cells #[.slice none 0 0, .slice none 0 0, .bool false, .int .u16 0] 98)).heap[w.heap.size + 1]? = some (.cells #[.int .i8 (dd 0), .int .i8 (dd 1), .int .i8 (dd 2), .int .i8 (dd 3), .int .i8 (dd 4), .int .i8 (dd 5)] 67 (0, 0)) := by
  obtain ⟨h1, h2, h3, h4⟩ := al4S w (.cells #[.int .u8 p, .int .i8 (f 0), .int .i8 (f 1), .int .i8 (f 2), .int .i8 (f 3), .int .i8 (f 4), .int .i8 (f 5), .int .i8 (t 0), .int .i8 (t 1), .int .i8 (t 2), .int .i8 (t 3), .int .i8 (t 4), .int .i8 (t 5)] 96) (.cells #[.int .i8 (dd 0), .int .i8 (dd 1), .int .i8 (dd 2), .int .i8 (dd 3), .int .i8 (dd 4), .int .i8 (dd 5)] 67) (.cells #[.int .u8 0, .int .i8 0, .int .i8 0, .int .i8 0, .int .i8 0, .int .i8 0, .int .i8 0, .int .i8 0, .int .i8 0, .int .i8 0, .int .i8 0, .int .i8 0, .int .i8 0] 96) (.cells #[.slice none 0 0, .slice none 0 0, .bool false, .int .u16 0] 98)
  exact ⟨⟨by repeat' (first | (with_reducible exact Below.refl _ _) | (with_reducible assumption) | (with_reducible refine Below.setCell ?_ ?_ _) | (with_reducible refine Below.alloc ?_ ?_ _) | (with_reducible refine Below.drew ?_) | (with_reducible refine Below.drawsN ?_ _) | go_size), h1, h3, h4, by omega, by omega, by omega, by omega, by omega, by omega, by omega, by omega, by omega, by simp⟩, h2⟩
set_option maxRecDepth 100000 in
set_option maxHeartbeats 4000000 in
theorem Start_busy (p : Int) (f t dd : Nat → Int) (pw : Nat) (w : World) (hp : p ≠ 0) : Calls Try.prog 54 #[.agg #[.int .u8 p, .int .i8 (f 0), .int .i8 (f 1), .int .i8 (f 2), .int .i8 (f 3), .int .i8 (f 4), .int .i8 (f 5), .int .i8 (t 0), .int .i8 (t 1), .int .i8 (t 2), .int .i8 (t 3), .int .i8 (t 4), .int .i8 (t 5)], .agg #[.int .i8 (dd 0), .int .i8 (dd 1), .int .i8 (dd 2), .int .i8 (dd 3), .int .i8 (dd 4), .int .i8 (dd 5)], .int .u16 (pw : Nat)] w fun e w' => e = .returned (.tuple #[.agg #[.int .u8 p, .int .i8 (f 0), .int .i8 (f 1), .int .i8 (f 2), .int .i8 (f 3), .int .i8 (f 4), .int .i8 (f 5), .int .i8 (t 0), .int .i8 (t 1), .int .i8 (t 2), .int .i8 (t 3), .int .i8 (t 4), .int .i8 (t 5)], .agg #[.slice none 0 0, .slice none 0 0, .bool false, .int .u16 0], .int .i64 7]) ∧ Below w.heap.size w w' := by
  obtain ⟨hS, h4⟩ := T3.newS w p f t dd
  have hzt := zero_tn
  have hzs := zero_st
  have hb : (p != 0) = true := by simpa using hp
  clear hp
  skip
  go_enter Try.func54, Try.ntmps54
  go_upto_region 1 with fail
  obtain ⟨w1, hw1⟩ : ∃ w1, w1 = ((((w.alloc (.cells #[.int .u8 p, .int .i8 (f 0), .int .i8 (f 1), .int .i8 (f 2), .int .i8 (f 3), .int .i8 (f 4), .int .i8 (f 5), .int .i8 (t 0), .int .i8 (t 1), .int .i8 (t 2), .int .i8 (t 3), .int .i8 (t 4), .int .i8 (t 5)] 96)).alloc (.cells #[.int .i8 (dd 0), .int .i8 (dd 1), .int .i8 (dd 2), .int .i8 (dd 3), .int .i8 (dd 4), .int .i8 (dd 5)] 67)).alloc (.cells #[.int .u8 0, .int .i8 0, .int .i8 0, .int .i8 0, .int .i8 0, .int .i8 0, .int .i8 0, .int .i8 0, .int .i8 0, .int .i8 0, .int .i8 0, .int .i8 0, .int .i8 0] 96)).alloc (.cells #[.slice none 0 0, .slice none 0 0, .bool false, .int .u16 0] 98)) := ⟨_, rfl⟩
  rw [← hw1] at hS h4 ⊢
  obtain ⟨B, hB⟩ : ∃ g, g = w.heap.size + 1 + 1 + 1 + 1 := ⟨_, rfl⟩
  rw [← hB] at hS
  obtain ⟨g7, hg7⟩ : ∃ g, g = w.heap.size + 1 + 1 + 1 := ⟨_, rfl⟩
  rw [← hg7] at hS ⊢
  obtain ⟨g6, hg6⟩ : ∃ g, g = w.heap.size + 1 + 1 := ⟨_, rfl⟩
  rw [← hg6] at hS ⊢
  obtain ⟨g4, hg4⟩ : ∃ g, g = w.heap.size + 1 := ⟨_, rfl⟩
  rw [← hg4] at h4 ⊢
  obtain ⟨g3, hg3⟩ : ∃ g, g = w.heap.size := ⟨_, rfl⟩
  rw [show (Value.pointer (some ⟨w.heap.size, 0, none⟩)) = .pointer (some ⟨g3, 0, none⟩) by rw [hg3]]
  have hS : T3 w w1 g3 g6 g7 B p f t := by rw [hg3]; exact hS
  have HS := Lib.hid hS
  clear hS hw1 hB hg7 hg6 hg4 hg3
  have b3 := HS.out.b3
  go_wp2_with (((with_reducible show wpList _ _ _ (_ :: _) _ _); refine wpList_load_row rfl 96 _ rfl _ rfl _ _ _ _ b3 Try.underlying96 rfl (by exact size_tn) ?_; (try go_simp)))
  go_at_call 52
  refine (Busy_any p f t _).mono ?_
  rintro e w2 ⟨rfl, hb2⟩
  rw [hb]
  have HS2 := Lib.hid (HS.out.step hb2)
  clear hb2 HS b3
  go_upto_region 2 with fail
  have b3 := HS2.out.b3
  have b6 := HS2.out.b6
  have b7 := (HS2.out.fin #[.int .u8 p, .int .i8 (f 0), .int .i8 (f 1), .int .i8 (f 2), .int .i8 (f 3), .int .i8 (f 4), .int .i8 (f 5), .int .i8 (t 0), .int .i8 (t 1), .int .i8 (t 2), .int .i8 (t 3), .int .i8 (t 4), .int .i8 (t 5)] #[.slice none 0 0, .slice none 0 0, .bool false, .int .u16 0]).2.2.1
  have HF := Lib.hid (HS2.out.fin #[.int .u8 p, .int .i8 (f 0), .int .i8 (f 1), .int .i8 (f 2), .int .i8 (f 3), .int .i8 (f 4), .int .i8 (f 5), .int .i8 (t 0), .int .i8 (t 1), .int .i8 (t 2), .int .i8 (t 3), .int .i8 (t 4), .int .i8 (t 5)] #[.slice none 0 0, .slice none 0 0, .bool false, .int .u16 0])
  go_wp2_with (first | ((with_reducible show wpList _ _ _ (_ :: _) _ _); refine wpList_load_row rfl 96 _ rfl _ rfl _ _ _ _ b3 Try.underlying96 rfl (by exact size_tn) ?_; (try go_simp)) | ((with_reducible show wpList _ _ _ (_ :: _) _ _); refine wpList_store_row rfl 96 _ _ rfl _ _ rfl rfl _ _ b6 (by exact size_tn) (by rfl) (by simp [Value.oneCell']) ?_) | ((with_reducible show wpList _ _ _ (_ :: _) _ _); refine wpList_store_row rfl 98 _ _ rfl _ _ rfl rfl _ _ b7 (by exact size_st) (by rfl) (by simp [Value.oneCell']) ?_))
  refine bodyPost_ret (res_cct rfl _ _ _ _ _ _ _ _ _ _ rfl rfl HF.out.1 HF.out.2.1 Try.underlying96 rfl (by exact size_tn) Try.underlying98 rfl (by exact size_st)) rfl ?_
  exact ⟨rfl, HF.out.2.2.2⟩
set_option maxRecDepth 100000 in
set_option maxHeartbeats 4000000 in
theorem Start_idle (f t dd : Nat → Int) (pw : Nat) (w : World) (ht : ChOk dd) (hpw : pw < 65536) : Calls Try.prog 54 #[.agg #[.int .u8 0, .int .i8 (f 0), .int .i8 (f 1), .int .i8 (f 2), .int .i8 (f 3), .int .i8 (f 4), .int .i8 (f 5), .int .i8 (t 0), .int .i8 (t 1), .int .i8 (t 2), .int .i8 (t 3), .int .i8 (t 4), .int .i8 (t 5)], .agg #[.int .i8 (dd 0), .int .i8 (dd 1), .int .i8 (dd 2), .int .i8 (dd 3), .int .i8 (dd 4), .int .i8 (dd 5)], .int .u16 (pw : Nat)] w fun e w' => ∃ v, e = .returned (.tuple #[.agg #[.int .u8 1, .int .i8 (t 0), .int .i8 (t 1), .int .i8 (t 2), .int .i8 (t 3), .int .i8 (t 4), .int .i8 (t 5), .int .i8 (dd 0), .int .i8 (dd 1), .int .i8 (dd 2), .int .i8 (dd 3), .int .i8 (dd 4), .int .i8 (dd 5)], .agg #[v, .slice none 0 0, .bool false, .int .u16 ((0 : Nat) : Int)], .int .i64 0]) ∧ w'.ownsRow w.heap.size 3 1 v (upTo (lessS (unitsS dd 6) pw) 16).length (zl (upTo (lessS (unitsS dd 6) pw) 16)) ∧ Below w.heap.size w w' := by
  obtain ⟨p, hp⟩ : ∃ p : Int, p = 0 := ⟨_, rfl⟩
  rw [show (Value.int .u8 0) = .int .u8 p by rw [hp]]
  obtain ⟨hS, h4⟩ := T3.newS w p f t dd
  have hzt := zero_tn
  have hzs := zero_st
  have hb : (p != 0) = false := by simp [hp]
  have HA := Lib.hid (show actC p f t = t by unfold actC; rw [if_neg (by omega)])
  obtain ⟨s, hs⟩ : ∃ s, s = unitsS dd 6 := ⟨_, rfl⟩
  have hs1 : s < 65536 := by rw [hs]; exact unitsS_lt dd 6
  obtain ⟨o, ho⟩ : ∃ o, o = lessS s pw := ⟨_, rfl⟩
  have ho1 : o < 65536 := by rw [ho]; exact lessS_lt hs1
  rw [← hs, ← ho]
  have HSS := Lib.hid hs
  have HO := Lib.hid ho
  have HT := Lib.hid ht
  clear hp hs ho ht
  skip
  go_enter Try.func54, Try.ntmps54
  go_upto_region 1 with fail
  obtain ⟨w1, hw1⟩ : ∃ w1, w1 = ((((w.alloc (.cells #[.int .u8 p, .int .i8 (f 0), .int .i8 (f 1), .int .i8 (f 2), .int .i8 (f 3), .int .i8 (f 4), .int .i8 (f 5), .int .i8 (t 0), .int .i8 (t 1), .int .i8 (t 2), .int .i8 (t 3), .int .i8 (t 4), .int .i8 (t 5)] 96)).alloc (.cells #[.int .i8 (dd 0), .int .i8 (dd 1), .int .i8 (dd 2), .int .i8 (dd 3), .int .i8 (dd 4), .int .i8 (dd 5)] 67)).alloc (.cells #[.int .u8 0, .int .i8 0, .int .i8 0, .int .i8 0, .int .i8 0, .int .i8 0, .int .i8 0, .int .i8 0, .int .i8 0, .int .i8 0, .int .i8 0, .int .i8 0, .int .i8 0] 96)).alloc (.cells #[.slice none 0 0, .slice none 0 0, .bool false, .int .u16 0] 98)) := ⟨_, rfl⟩
  rw [← hw1] at hS h4 ⊢
  obtain ⟨B, hB⟩ : ∃ g, g = w.heap.size + 1 + 1 + 1 + 1 := ⟨_, rfl⟩
  rw [← hB] at hS
  obtain ⟨g7, hg7⟩ : ∃ g, g = w.heap.size + 1 + 1 + 1 := ⟨_, rfl⟩
  rw [← hg7] at hS ⊢
  obtain ⟨g6, hg6⟩ : ∃ g, g = w.heap.size + 1 + 1 := ⟨_, rfl⟩
  rw [← hg6] at hS ⊢
  obtain ⟨g4, hg4⟩ : ∃ g, g = w.heap.size + 1 := ⟨_, rfl⟩
  rw [← hg4] at h4 ⊢
  obtain ⟨g3, hg3⟩ : ∃ g, g = w.heap.size := ⟨_, rfl⟩
  rw [show (Value.pointer (some ⟨w.heap.size, 0, none⟩)) = .pointer (some ⟨g3, 0, none⟩) by rw [hg3]]
  have hS : T3 w w1 g3 g6 g7 B p f t := by rw [hg3]; exact hS
  have HS := Lib.hid hS
  clear hS hw1 hB hg7 hg6 hg4 hg3
  have H4 := Lib.hid h4
  clear h4
  have b3 := HS.out.b3
  go_wp2_with (((with_reducible show wpList _ _ _ (_ :: _) _ _); refine wpList_load_row rfl 96 _ rfl _ rfl _ _ _ _ b3 Try.underlying96 rfl (by exact size_tn) ?_; (try go_simp)))
  go_at_call 52
  refine (Busy_any p f t _).mono ?_
  rintro e w2 ⟨rfl, hb2⟩
  rw [hb]
  have HS2 := Lib.hid (HS.out.step hb2)
  have h4 := box_below H4.out hb2 (box_lt H4.out)
  clear hb2 HS b3 H4
  go_upto_region 3 with fail
  have b3 := HS2.out.b3
  have l3 := box_lt b3
  have l4 := box_lt h4
  obtain ⟨I, W, hne, hWI, hIW⟩ := Go.Mix.family (fun v => Below w2.heap.size w2 v) (Below.refl _ _)
  have HJ := Lib.hid hIW
  have HW := Lib.hid hWI
  clear hWI hIW
  refine Go.Flo3.wp_region (fun w' => ∃ i, w' = W i) 5 [Go.Flo.Spec.is (.agg #[.int .i8 (t 0), .int .i8 (t 1), .int .i8 (t 2), .int .i8 (t 3), .int .i8 (t 4), .int .i8 (t 5)]), Go.Flo.Spec.ptr w2.heap.size #[.int .u8 0, .int .i8 0, .int .i8 0, .int .i8 0, .int .i8 0, .int .i8 0, .int .i8 0, .int .i8 0, .int .i8 0, .int .i8 0, .int .i8 0, .int .i8 0, .int .i8 0] 96] (by kernel_rfl) (by kernel_rfl) (by decide) (by rintro _ w' ⟨i, rfl⟩ hb; exact HJ.out _ ((HW.out i).trans (hb.mono (HW.out i).size))) (HJ.out _ (Below.refl _ _).drew) ?_
  simp only [Go.Flo.pair, Go.Mix.calm, List.take, List.drop, if_true, Bool.false_eq_true, if_false, Nat.reduceAdd, Nat.reduceSub]
  (refine Go.Flo.fw_calm rfl ?_ (fun K hK => ?_); (first | exact Go.Mix.wanted_none rfl | exact Go.Mix.wanted_tt rfl rfl rfl | exact Go.Mix.wanted_ff rfl rfl rfl); refine Go.Flo.quiet_load_row 96 _ rfl _ rfl _ #[.int .u8 p, .int .i8 (f 0), .int .i8 (f 1), .int .i8 (f 2), .int .i8 (f 3), .int .i8 (f 4), .int .i8 (f 5), .int .i8 (t 0), .int .i8 (t 1), .int .i8 (t 2), .int .i8 (t 3), .int .i8 (t 4), .int .i8 (t 5)] _ (by rintro _ ⟨i, rfl⟩; exact ((HW.out i).block _ l3).trans b3) Try.underlying96 rfl size_tn ?_; go_simp; refine hK _ ?_; clear hK K)
  refine Go.Flo.fw_loud rfl ?_ rfl (by simp) (fun wv hwv hav K hK => ?_) (fun v hv K hK => ?_)
  · (first | exact Go.Mix.wanted_none rfl | exact Go.Mix.wanted_tt rfl rfl rfl | exact Go.Mix.wanted_ff rfl rfl rfl)
  · obtain ⟨iv, rfl⟩ := hwv
    have hbv := HW.out iv
    (first | go_big_op | go_simp)
    go_at_call 51
    refine (Active_any p f t _).mono ?_
    rintro e w' ⟨rfl, hb⟩
    rw [HA.out]
    exact hK _ _ (Go.Flo.owes_is _ rfl hb)
  obtain rfl := hv.is
  go_simp
  refine hK _ ?_
  clear hK K hv
  (refine Go.Flo.fw_calm rfl ?_ (fun K hK => ?_); (first | exact Go.Mix.wanted_none rfl | exact Go.Mix.wanted_tt rfl rfl rfl | exact Go.Mix.wanted_ff rfl rfl rfl); refine Go.Flo.quiet_load_row 67 _ rfl _ rfl _ #[.int .i8 (dd 0), .int .i8 (dd 1), .int .i8 (dd 2), .int .i8 (dd 3), .int .i8 (dd 4), .int .i8 (dd 5)] _ (by rintro _ ⟨i, rfl⟩; exact ((HW.out i).block _ l4).trans h4) Try.underlying67 rfl size_ch ?_; go_simp; refine hK _ ?_; clear hK K)
  (first | (refine Go.Flo.fw_calm rfl ?_ (fun K hK => ?_); (first | exact Go.Mix.wanted_none rfl | exact Go.Mix.wanted_tt rfl rfl rfl | exact Go.Mix.wanted_ff rfl rfl rfl); go_big_quiet_op; refine hK _ ?_; clear hK K) | (refine Go.Flo.fw_skip ?_ (fun K hK => ?_); (first | exact Go.Mix.wanted_tf rfl rfl rfl | exact Go.Mix.wanted_ft rfl rfl rfl); go_simp; refine hK _ ?_; clear hK K) | (refine Go.Flo.fw_any rfl ?_ (fun K hK => ?_); (first | exact Go.Mix.wanted_none rfl | exact Go.Mix.wanted_tt rfl rfl rfl | exact Go.Mix.wanted_ff rfl rfl rfl); go_simp; (try (go_ints; try go_simp)); refine hK _ ?_; clear hK K))
  refine Go.Flo.fw_loud rfl ?_ rfl (by simp) (fun wv hwv hav K hK => ?_) (fun v hv K hK => ?_)
  · (first | exact Go.Mix.wanted_none rfl | exact Go.Mix.wanted_tt rfl rfl rfl | exact Go.Mix.wanted_ff rfl rfl rfl)
  · obtain ⟨iv, rfl⟩ := hwv
    (first | go_big_op | go_simp)
    refine hK _ _ (Go.Flo.owes_ptr (HW.out iv).size)
  obtain ⟨g9, hg9, rfl, hng9⟩ := hv.ptr rfl
  go_simp
  refine hK _ ?_
  clear hK K hv
  refine Go.Flo.fw_nil ?_
  intro w4 hww4 hfw4 huw4
  obtain ⟨iend, hiend⟩ := hww4
  have hbw4 := HW.out iend
  rw [← hiend] at hbw4
  clear hiend iend huw4
  have hC2 := Go.Flo.says_ptr ((hfw4 (some 9)).2 rfl).1
  have hC3 := setRow_heap _ _ _ #[.int .u8 1, .int .i8 (t 0), .int .i8 (t 1), .int .i8 (t 2), .int .i8 (t 3), .int .i8 (t 4), .int .i8 (t 5), .int .i8 (dd 0), .int .i8 (dd 1), .int .i8 (dd 2), .int .i8 (dd 3), .int .i8 (dd 4), .int .i8 (dd 5)] _ _ hC2
  have hb5 := bel_rowS hbw4 hg9 #[.int .u8 1, .int .i8 (t 0), .int .i8 (t 1), .int .i8 (t 2), .int .i8 (t 3), .int .i8 (t 4), .int .i8 (t 5), .int .i8 (dd 0), .int .i8 (dd 1), .int .i8 (dd 2), .int .i8 (dd 3), .int .i8 (dd 4), .int .i8 (dd 5)]
  have HS5 := Lib.hid (HS2.out.step hb5)
  have h5 := box_below h4 hb5 (box_lt h4)
  clear hfw4 HJ HW hne hbw4 b3 l3 l4 HS2 h4 hb5
  clear W I
  refine ⟨fun _ => True, trivial, ?_⟩

  (refine Go.Mix.walk_loud rfl ?_ (fun K hK => ?_); (first | exact Go.Mix.wanted_none rfl | exact Go.Mix.wanted_tt rfl rfl rfl | exact Go.Mix.wanted_ff rfl rfl rfl); refine wp_store_row 96 _ _ rfl _ #[.int .u8 1, .int .i8 (t 0), .int .i8 (t 1), .int .i8 (t 2), .int .i8 (t 3), .int .i8 (t 4), .int .i8 (t 5), .int .i8 (dd 0), .int .i8 (dd 1), .int .i8 (dd 2), .int .i8 (dd 3), .int .i8 (dd 4), .int .i8 (dd 5)] rfl rfl 96 _ hC2 size_tn rfl (by simp [Value.oneCell']) (hK _ _ trivial ?_); clear hK K)
  (repeat (first | (refine Go.Mix.walk_calm rfl ?_ (fun K hK => ?_); (first | exact Go.Mix.wanted_none rfl | exact Go.Mix.wanted_tt rfl rfl rfl | exact Go.Mix.wanted_ff rfl rfl rfl); go_big_quiet_op; refine hK _ ?_; clear hK K) | (refine Go.Mix.walk_skip ?_ (fun K hK => ?_); (first | exact Go.Mix.wanted_tf rfl rfl rfl | exact Go.Mix.wanted_ft rfl rfl rfl); go_simp; refine hK _ ?_; clear hK K) | (refine Go.Mix.walk_loud rfl ?_ (fun K hK => ?_); (first | exact Go.Mix.wanted_none rfl | exact Go.Mix.wanted_tt rfl rfl rfl | exact Go.Mix.wanted_ff rfl rfl rfl); (first | go_big_op | go_simp); (first | (refine hK _ _ trivial ?_; clear hK K) | (fail; (try dsimp only); refine hK _ _ trivial ?_; clear hK K))) | (refine Go.Mix.walk_step (fun K hK => ?_); go_simp; (try (go_ints; try go_simp)); refine hK _ _ ?_; clear hK K)))
  refine Go.Mix.walk_nil ?_
  obtain ⟨w5, hw5⟩ : ∃ w5, w5 = w4.setRow g9 #[.int .u8 1, .int .i8 (t 0), .int .i8 (t 1), .int .i8 (t 2), .int .i8 (t 3), .int .i8 (t 4), .int .i8 (t 5), .int .i8 (dd 0), .int .i8 (dd 1), .int .i8 (dd 2), .int .i8 (dd 3), .int .i8 (dd 4), .int .i8 (dd 5)] := ⟨_, rfl⟩
  rw [← hw5] at HS5 hC3 h5 ⊢
  clear hw5 hC2
  have l9 := box_lt hC3
  have l4 := box_lt h5
  go_upto_region 4 with fail
  obtain ⟨I, W, hne, hWI, hIW⟩ := Go.Mix.family (fun v => Below w5.heap.size w5 v) (Below.refl _ _)
  have HJ := Lib.hid hIW
  have HW := Lib.hid hWI
  clear hWI hIW
  refine Go.Flo3.wp_region (fun w' => ∃ i, w' = W i) 7 [Go.Flo.Spec.is (.int .u16 (s : Nat)), Go.Flo.Spec.is (.int .u16 (o : Nat)), SpZ B (upTo o 16)] (by kernel_rfl) (by kernel_rfl) (by decide) (by rintro _ w' ⟨i, rfl⟩ hb; exact HJ.out _ ((HW.out i).trans (hb.mono (HW.out i).size))) (HJ.out _ (Below.refl _ _).drew) ?_
  simp only [Go.Flo.pair, Go.Mix.calm, List.take, List.drop, if_true, Bool.false_eq_true, if_false, Nat.reduceAdd, Nat.reduceSub]
  (refine Go.Flo.fw_calm rfl ?_ (fun K hK => ?_); (first | exact Go.Mix.wanted_none rfl | exact Go.Mix.wanted_tt rfl rfl rfl | exact Go.Mix.wanted_ff rfl rfl rfl); refine Go.Flo.quiet_load_row 96 _ rfl _ rfl _ #[.int .u8 1, .int .i8 (t 0), .int .i8 (t 1), .int .i8 (t 2), .int .i8 (t 3), .int .i8 (t 4), .int .i8 (t 5), .int .i8 (dd 0), .int .i8 (dd 1), .int .i8 (dd 2), .int .i8 (dd 3), .int .i8 (dd 4), .int .i8 (dd 5)] _ (by rintro _ ⟨i, rfl⟩; exact ((HW.out i).block _ l9).trans hC3) Try.underlying96 rfl size_tn ?_; go_simp; refine hK _ ?_; clear hK K)
  (refine Go.Flo.fw_calm rfl ?_ (fun K hK => ?_); (first | exact Go.Mix.wanted_none rfl | exact Go.Mix.wanted_tt rfl rfl rfl | exact Go.Mix.wanted_ff rfl rfl rfl); refine Go.Flo.quiet_load_row 67 _ rfl _ rfl _ #[.int .i8 (dd 0), .int .i8 (dd 1), .int .i8 (dd 2), .int .i8 (dd 3), .int .i8 (dd 4), .int .i8 (dd 5)] _ (by rintro _ ⟨i, rfl⟩; exact ((HW.out i).block _ l4).trans h5) Try.underlying67 rfl size_ch ?_; go_simp; refine hK _ ?_; clear hK K)
  refine Go.Flo.fw_loud rfl ?_ rfl (by simp) (fun wv hwv hav K hK => ?_) (fun v hv K hK => ?_)
  · (first | exact Go.Mix.wanted_none rfl | exact Go.Mix.wanted_tt rfl rfl rfl | exact Go.Mix.wanted_ff rfl rfl rfl)
  · obtain ⟨iv, rfl⟩ := hwv
    have hbv := HW.out iv
    (first | go_big_op | go_simp)
    go_at_call 34
    refine (Units_any dd _ HT.out).mono ?_
    rintro e w' ⟨rfl, hb⟩
    rw [← HSS.out]
    exact hK _ _ (Go.Flo.owes_is _ rfl hb)
  obtain rfl := hv.is
  go_simp
  refine hK _ ?_
  clear hK K hv
  (first | (refine Go.Flo.fw_calm rfl ?_ (fun K hK => ?_); (first | exact Go.Mix.wanted_none rfl | exact Go.Mix.wanted_tt rfl rfl rfl | exact Go.Mix.wanted_ff rfl rfl rfl); go_big_quiet_op; refine hK _ ?_; clear hK K) | (refine Go.Flo.fw_skip ?_ (fun K hK => ?_); (first | exact Go.Mix.wanted_tf rfl rfl rfl | exact Go.Mix.wanted_ft rfl rfl rfl); go_simp; refine hK _ ?_; clear hK K) | (refine Go.Flo.fw_any rfl ?_ (fun K hK => ?_); (first | exact Go.Mix.wanted_none rfl | exact Go.Mix.wanted_tt rfl rfl rfl | exact Go.Mix.wanted_ff rfl rfl rfl); go_simp; (try (go_ints; try go_simp)); refine hK _ ?_; clear hK K))
  refine Go.Flo.fw_loud rfl ?_ rfl (by simp) (fun wv hwv hav K hK => ?_) (fun v hv K hK => ?_)
  · (first | exact Go.Mix.wanted_none rfl | exact Go.Mix.wanted_tt rfl rfl rfl | exact Go.Mix.wanted_ff rfl rfl rfl)
  · obtain ⟨iv, rfl⟩ := hwv
    have hbv := HW.out iv
    (first | go_big_op | go_simp)
    go_at_call 67
    refine (Less_any s pw _ hs1 hpw).mono ?_
    rintro e w' ⟨rfl, rfl⟩
    rw [show s &&& (65535 - pw) = o from HO.out.symm]
    exact hK _ _ (Go.Flo.owes_is _ rfl (Below.refl _ _))
  obtain rfl := hv.is
  go_simp
  refine hK _ ?_
  clear hK K hv
  refine Go.Flo.fw_loud rfl ?_ rfl (by simp) (fun wv hwv hav K hK => ?_) (fun v hv K hK => ?_)
  · (first | exact Go.Mix.wanted_none rfl | exact Go.Mix.wanted_tt rfl rfl rfl | exact Go.Mix.wanted_ff rfl rfl rfl)
  · obtain ⟨iv, rfl⟩ := hwv
    have hbv := HW.out iv
    (first | go_big_op | go_simp)
    go_at_call 81
    refine (list_any o _ ho1).mono ?_
    rintro e w' ⟨v, rfl, hown, hb⟩
    exact hK _ _ (owes_Z rfl hb hown (Nat.le_trans HS5.out.sz hbv.size))
  obtain ⟨xa, xc, rfl⟩ := ex_Z hv
  go_simp
  refine hK _ ?_
  clear hK K hv
  (first | (refine Go.Flo.fw_calm rfl ?_ (fun K hK => ?_); (first | exact Go.Mix.wanted_none rfl | exact Go.Mix.wanted_tt rfl rfl rfl | exact Go.Mix.wanted_ff rfl rfl rfl); go_big_quiet_op; refine hK _ ?_; clear hK K) | (refine Go.Flo.fw_skip ?_ (fun K hK => ?_); (first | exact Go.Mix.wanted_tf rfl rfl rfl | exact Go.Mix.wanted_ft rfl rfl rfl); go_simp; refine hK _ ?_; clear hK K) | (refine Go.Flo.fw_any rfl ?_ (fun K hK => ?_); (first | exact Go.Mix.wanted_none rfl | exact Go.Mix.wanted_tt rfl rfl rfl | exact Go.Mix.wanted_ff rfl rfl rfl); go_simp; (try (go_ints; try go_simp)); refine hK _ ?_; clear hK K))
  refine Go.Flo.fw_nil ?_
  intro w6 hww6 hfw6 huw6
  obtain ⟨iend, hiend⟩ := hww6
  have hbw6 := HW.out iend
  rw [← hiend] at hbw6
  clear hiend iend huw6
  have hown : w6.ownsRow B 3 1 (.slice xa (upTo o 16).length xc) (upTo o 16).length (zl (upTo o 16)) := ((hfw6 (some 23)).1.2 rfl).1
  have HW4 := Lib.hid hown
  have HS6 := Lib.hid (HS5.out.step hbw6)
  clear hown hfw6 HJ HW hne hbw6 HS5 h5 hC3 l9 l4
  clear W I
  have b6 := HS6.out.b6
  have hf := HS6.out.fin #[.int .u8 1, .int .i8 (t 0), .int .i8 (t 1), .int .i8 (t 2), .int .i8 (t 3), .int .i8 (t 4), .int .i8 (t 5), .int .i8 (dd 0), .int .i8 (dd 1), .int .i8 (dd 2), .int .i8 (dd 3), .int .i8 (dd 4), .int .i8 (dd 5)] #[.slice xa (upTo o 16).length xc, .slice none 0 0, .bool false, .int .u16 ((0 : Nat) : Int)]
  have b7 := hf.2.2.1
  have HF := Lib.hid hf
  clear hf
  refine ⟨fun _ => True, trivial, ?_⟩

  (repeat (first | (refine Go.Mix.walk_calm rfl ?_ (fun K hK => ?_); (first | exact Go.Mix.wanted_none rfl | exact Go.Mix.wanted_tt rfl rfl rfl | exact Go.Mix.wanted_ff rfl rfl rfl); go_big_quiet_op; refine hK _ ?_; clear hK K) | (refine Go.Mix.walk_skip ?_ (fun K hK => ?_); (first | exact Go.Mix.wanted_tf rfl rfl rfl | exact Go.Mix.wanted_ft rfl rfl rfl); go_simp; refine hK _ ?_; clear hK K) | (refine Go.Mix.walk_loud rfl ?_ (fun K hK => ?_); (first | exact Go.Mix.wanted_none rfl | exact Go.Mix.wanted_tt rfl rfl rfl | exact Go.Mix.wanted_ff rfl rfl rfl); (first | go_big_op | go_simp); (first | (refine hK _ _ trivial ?_; clear hK K) | (fail; (try dsimp only); refine hK _ _ trivial ?_; clear hK K))) | (refine Go.Mix.walk_step (fun K hK => ?_); go_simp; (try (go_ints; try go_simp)); refine hK _ _ ?_; clear hK K)))
  (refine Go.Mix.walk_loud rfl ?_ (fun K hK => ?_); (first | exact Go.Mix.wanted_none rfl | exact Go.Mix.wanted_tt rfl rfl rfl | exact Go.Mix.wanted_ff rfl rfl rfl); refine wp_store_row 96 _ _ rfl _ #[.int .u8 1, .int .i8 (t 0), .int .i8 (t 1), .int .i8 (t 2), .int .i8 (t 3), .int .i8 (t 4), .int .i8 (t 5), .int .i8 (dd 0), .int .i8 (dd 1), .int .i8 (dd 2), .int .i8 (dd 3), .int .i8 (dd 4), .int .i8 (dd 5)] rfl rfl 96 _ b6 size_tn rfl (by simp [Value.oneCell']) (hK _ _ trivial ?_); clear hK K)
  (repeat (first | (refine Go.Mix.walk_calm rfl ?_ (fun K hK => ?_); (first | exact Go.Mix.wanted_none rfl | exact Go.Mix.wanted_tt rfl rfl rfl | exact Go.Mix.wanted_ff rfl rfl rfl); go_big_quiet_op; refine hK _ ?_; clear hK K) | (refine Go.Mix.walk_skip ?_ (fun K hK => ?_); (first | exact Go.Mix.wanted_tf rfl rfl rfl | exact Go.Mix.wanted_ft rfl rfl rfl); go_simp; refine hK _ ?_; clear hK K) | (refine Go.Mix.walk_loud rfl ?_ (fun K hK => ?_); (first | exact Go.Mix.wanted_none rfl | exact Go.Mix.wanted_tt rfl rfl rfl | exact Go.Mix.wanted_ff rfl rfl rfl); (first | go_big_op | go_simp); (first | (refine hK _ _ trivial ?_; clear hK K) | (fail; (try dsimp only); refine hK _ _ trivial ?_; clear hK K))) | (refine Go.Mix.walk_step (fun K hK => ?_); go_simp; (try (go_ints; try go_simp)); refine hK _ _ ?_; clear hK K)))
  (refine Go.Mix.walk_loud rfl ?_ (fun K hK => ?_); (first | exact Go.Mix.wanted_none rfl | exact Go.Mix.wanted_tt rfl rfl rfl | exact Go.Mix.wanted_ff rfl rfl rfl); refine wp_store_row 98 _ _ rfl _ #[.slice xa (upTo o 16).length xc, .slice none 0 0, .bool false, .int .u16 ((0 : Nat) : Int)] rfl rfl 98 _ b7 size_st rfl (by simp [Value.oneCell']) (hK _ _ trivial ?_); clear hK K)
  (repeat (first | (refine Go.Mix.walk_calm rfl ?_ (fun K hK => ?_); (first | exact Go.Mix.wanted_none rfl | exact Go.Mix.wanted_tt rfl rfl rfl | exact Go.Mix.wanted_ff rfl rfl rfl); go_big_quiet_op; refine hK _ ?_; clear hK K) | (refine Go.Mix.walk_skip ?_ (fun K hK => ?_); (first | exact Go.Mix.wanted_tf rfl rfl rfl | exact Go.Mix.wanted_ft rfl rfl rfl); go_simp; refine hK _ ?_; clear hK K) | (refine Go.Mix.walk_loud rfl ?_ (fun K hK => ?_); (first | exact Go.Mix.wanted_none rfl | exact Go.Mix.wanted_tt rfl rfl rfl | exact Go.Mix.wanted_ff rfl rfl rfl); (first | go_big_op | go_simp); (first | (refine hK _ _ trivial ?_; clear hK K) | (fail; (try dsimp only); refine hK _ _ trivial ?_; clear hK K))) | (refine Go.Mix.walk_step (fun K hK => ?_); go_simp; (try (go_ints; try go_simp)); refine hK _ _ ?_; clear hK K)))
  refine Go.Mix.walk_nil ?_
  go_wp2_with fail
  refine bodyPost_ret (res_cct rfl _ _ _ _ _ _ _ _ _ _ rfl rfl HF.out.1 HF.out.2.1 Try.underlying96 rfl (by exact size_tn) Try.underlying98 rfl (by exact size_st)) rfl ?_
  exact ⟨_, rfl, own_baseZ (own_setRowT (own_setRowT HW4.out HS6.out.l6 _) HS6.out.l7 _) HS6.out.lb, HF.out.2.2.2⟩
end Go.Proofs.Ytboojcahflkkmaa
