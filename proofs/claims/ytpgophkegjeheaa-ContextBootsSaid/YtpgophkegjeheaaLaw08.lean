/- Layer 8: the document's example. -/
import Derived.Test.YtpgophkegjeheaaCx6
import Derived.Test.YtpgophkegjeheaaSpR
import Derived.Laws.StructEq
namespace Go.Proofs.Ytpgophkegjeheaa
open Go.RowKit Go.Own
set_option linter.unusedVariables false
set_option linter.unusedSimpArgs false

def zz21 : List Nat := [0, 0, 0, 0, 0, 0, 0, 0, 0, 0, 0, 0, 0, 0, 0, 0, 0, 0, 0, 0, 0]
theorem cxDef_ok : cxDef.Ok := by constructor <;> decide
theorem cxDef_right : cxDef.right = true := by decide
theorem cxDef_bytes : cxB 0 0 0 cxDef = zz21 := by decide
theorem cxOf_zz : cxOf zz21 = cxDef := by decide
theorem good_zz : cxGood zz21 := ⟨by rw [cxOf_zz]; exact cxDef_right, by rw [cxOf_zz]; exact cxDef_bytes⟩
theorem zz_bytes : bytes zz21 := by unfold bytes zz21; decide
@[go_sem] theorem eqR (w : World) : (Op.equalIn 9999 24 (.agg #[.int .u8 cxDef.r0, .int .u8 cxDef.r1, .int .u8 cxDef.r2, .int .u8 cxDef.r3, .int .u8 cxDef.r4, .int .u8 cxDef.r5]) (.agg #[.int .u8 cxDef.r0, .int .u8 cxDef.r1, .int .u8 cxDef.r2, .int .u8 cxDef.r3, .int .u8 cxDef.r4, .int .u8 cxDef.r5])).run Try.prog w = .ok true w := by kernel_rfl
@[go_sem] theorem eqC (w : World) : (Op.equalIn 9999 26 (.agg #[.int .i8 cxDef.c0, .int .i8 cxDef.c1, .int .i8 cxDef.c2, .int .i8 cxDef.c3, .int .i8 cxDef.c4, .int .i8 cxDef.c5]) (.agg #[.int .i8 cxDef.c0, .int .i8 cxDef.c1, .int .i8 cxDef.c2, .int .i8 cxDef.c3, .int .i8 cxDef.c4, .int .i8 cxDef.c5])).run Try.prog w = .ok true w := by kernel_rfl
set_option maxRecDepth 100000 in
set_option maxHeartbeats 4000000 in
theorem awake08 (w : World) : Calls Try.prog 15 #[] w fun e w' => e = .returned (.bool true) ∧ Below w.heap.size w w' := by
  have hzc := zero_cx
  go_enter Try.func15, Try.ntmps15
  go_wp2_with fail
  go_at_call 28
  refine (Default_any _).mono ?_
  rintro e w1 ⟨rfl, hb1⟩
  go_wp2_with fail
  go_at_call 17
  refine (Bytes_yes cxDef _ cxDef_ok cxDef_right 0 0 0 rfl rfl rfl (by decide) (by decide) (by decide)).mono ?_
  rintro e w2 ⟨v, rfl, hown, hb2⟩
  rw [cxDef_bytes] at hown
  obtain ⟨va, vc, rfl⟩ := own_form hown
  have HV := Lib.hid (rd_of_own (f := bv zz21) hown (fun i hi => bl_at _ hi))
  have HB2 := Lib.hid (hb1.trans (hb2.mono hb1.size))
  clear hown hb1 hb2
  go_wp2_with fail
  go_at_call 24
  refine (cxParse_any va 21 vc _ zz21 _ rfl (Nat.le_refl _) HV.out zz_bytes rfl).mono ?_
  rintro e w3 ⟨hb3, ⟨_, rfl⟩ | ⟨hne, _⟩⟩
  · rw [cxOf_zz]
    have hal : Below w3.heap.size w3 (w3.alloc (.cells #[.int .u16 cxDef.f, .int .u16 cxDef.i, .int .u8 cxDef.r0, .int .u8 cxDef.r1, .int .u8 cxDef.r2, .int .u8 cxDef.r3, .int .u8 cxDef.r4, .int .u8 cxDef.r5, .int .i8 cxDef.c0, .int .i8 cxDef.c1, .int .i8 cxDef.c2, .int .i8 cxDef.c3, .int .i8 cxDef.c4, .int .i8 cxDef.c5, .int .u8 cxDef.m, .int .u16 cxDef.n, .bool cxDef.x, .int .u8 cxDef.h] 28)) := (Below.refl _ _).alloc (Nat.le_refl _) _
    have hb34 := hb3.trans (hal.mono hb3.size)
    have HV4 := Lib.hid (rd_grow HV.out hb34)
    have HB4 := Lib.hid (HB2.out.trans (hb34.mono HB2.out.size))
    have HBX := Lib.hid (heap_alloc_new w3 (.cells #[.int .u16 cxDef.f, .int .u16 cxDef.i, .int .u8 cxDef.r0, .int .u8 cxDef.r1, .int .u8 cxDef.r2, .int .u8 cxDef.r3, .int .u8 cxDef.r4, .int .u8 cxDef.r5, .int .i8 cxDef.c0, .int .i8 cxDef.c1, .int .i8 cxDef.c2, .int .i8 cxDef.c3, .int .i8 cxDef.c4, .int .i8 cxDef.c5, .int .u8 cxDef.m, .int .u16 cxDef.n, .bool cxDef.x, .int .u8 cxDef.h] 28))
    clear hb3 hal hb34 HV HB2
    go_wp2_with (refine wpList_store_row rfl 28 _ _ rfl _ _ rfl rfl _ _ (by (first | exact heap_alloc2_new _ _ _ | exact heap_alloc2_old _ _ _ | exact heap_alloc_new _ _ | assumption)) (by exact size_cx) (by rfl) (by simp [Value.oneCell']) ?_; (first | rw [setRow_alloc2_new] | rw [setRow_alloc2_old] | rw [World.setRow_alloc_new] | skip); (try go_simp))
    obtain ⟨w4, hw4⟩ : ∃ w4, w4 = w3.alloc (.cells #[.int .u16 cxDef.f, .int .u16 cxDef.i, .int .u8 cxDef.r0, .int .u8 cxDef.r1, .int .u8 cxDef.r2, .int .u8 cxDef.r3, .int .u8 cxDef.r4, .int .u8 cxDef.r5, .int .i8 cxDef.c0, .int .i8 cxDef.c1, .int .i8 cxDef.c2, .int .i8 cxDef.c3, .int .i8 cxDef.c4, .int .i8 cxDef.c5, .int .u8 cxDef.m, .int .u16 cxDef.n, .bool cxDef.x, .int .u8 cxDef.h] 28) := ⟨_, rfl⟩
    obtain ⟨g, hg⟩ : ∃ g, g = w3.heap.size := ⟨_, rfl⟩
    rw [← hw4] at HV4 HB4 HBX
    rw [← hg] at HBX
    rw [← hw4, ← hg]
    clear hw4 hg
    have hgl := box_lt HBX.out
    have hmk := fun w => make21 w
    obtain ⟨I, W, hne, hWI, hIW⟩ := Go.Mix.family (fun v => Below w4.heap.size w4 v) (Below.refl _ _)
    have HJ := Lib.hid hIW
    have HW := Lib.hid hWI
    clear hWI hIW
    refine Go.Flo.wp_region (fun w' => ∃ i, w' = W i) 19 [SpB zz21, Go.Flo.Spec.is (.bool true), Go.Flo.Spec.is (.agg #[.int .u16 cxDef.f, .int .u16 cxDef.i, .int .u8 cxDef.r0, .int .u8 cxDef.r1, .int .u8 cxDef.r2, .int .u8 cxDef.r3, .int .u8 cxDef.r4, .int .u8 cxDef.r5, .int .i8 cxDef.c0, .int .i8 cxDef.c1, .int .i8 cxDef.c2, .int .i8 cxDef.c3, .int .i8 cxDef.c4, .int .i8 cxDef.c5, .int .u8 cxDef.m, .int .u16 cxDef.n, .bool cxDef.x, .int .u8 cxDef.h])] (by kernel_rfl) (by kernel_rfl) (by decide) (by rintro _ w' ⟨i, rfl⟩ hb; exact HJ.out _ ((HW.out i).trans (hb.mono (HW.out i).size))) (HJ.out _ (Below.refl _ _).drew) ?_
    simp only [Go.Flo.pair, Go.Mix.calm, List.take, List.drop, if_true, Bool.false_eq_true, if_false, Nat.reduceAdd, Nat.reduceSub]
    have e8 : ∀ i, (W i).cell? ⟨g, 8, none⟩ = some (.int .i8 (-1)) := fun i => cell_of_row _ g 8 _ _ _ (((HW.out i).block g hgl).trans HBX.out)
    (repeat (first | (refine Go.Flo.fw_calm rfl ?_ (fun K hK => ?_); (first | exact Go.Mix.wanted_none rfl | exact Go.Mix.wanted_tt rfl rfl rfl | exact Go.Mix.wanted_ff rfl rfl rfl); go_big_quiet_op; refine hK _ ?_; clear hK K) | (refine Go.Flo.fw_skip ?_ (fun K hK => ?_); (first | exact Go.Mix.wanted_tf rfl rfl rfl | exact Go.Mix.wanted_ft rfl rfl rfl); go_simp; refine hK _ ?_; clear hK K) | (refine Go.Flo.fw_any rfl ?_ (fun K hK => ?_); (first | exact Go.Mix.wanted_none rfl | exact Go.Mix.wanted_tt rfl rfl rfl | exact Go.Mix.wanted_ff rfl rfl rfl); go_simp; (try (go_ints; try go_simp)); refine hK _ ?_; clear hK K)))
    refine Go.Flo.fw_loud rfl ?_ rfl (by simp) (fun wv hwv hav K hK => ?_) (fun v hv K hK => ?_)
    · (first | exact Go.Mix.wanted_none rfl | exact Go.Mix.wanted_tt rfl rfl rfl | exact Go.Mix.wanted_ff rfl rfl rfl)
    · obtain ⟨iv, rfl⟩ := hwv
      have hbv := HW.out iv
      (first | go_big_op | go_simp)
      exact hK _ _ (owes_lit (l := zz21) rfl (by decide) rfl)
    obtain ⟨b1, q1, rfl⟩ := ex_B hv
    go_simp
    refine hK _ ?_
    clear hK K hv
    (repeat (first | (refine Go.Flo.fw_calm rfl ?_ (fun K hK => ?_); (first | exact Go.Mix.wanted_none rfl | exact Go.Mix.wanted_tt rfl rfl rfl | exact Go.Mix.wanted_ff rfl rfl rfl); go_big_quiet_op; refine hK _ ?_; clear hK K) | (refine Go.Flo.fw_skip ?_ (fun K hK => ?_); (first | exact Go.Mix.wanted_tf rfl rfl rfl | exact Go.Mix.wanted_ft rfl rfl rfl); go_simp; refine hK _ ?_; clear hK K) | (refine Go.Flo.fw_any rfl ?_ (fun K hK => ?_); (first | exact Go.Mix.wanted_none rfl | exact Go.Mix.wanted_tt rfl rfl rfl | exact Go.Mix.wanted_ff rfl rfl rfl); go_simp; (try (go_ints; try go_simp)); refine hK _ ?_; clear hK K)))
    refine Go.Flo.fw_loud rfl ?_ rfl (by simp) (fun wv hwv hav K hK => ?_) (fun v hv K hK => ?_)
    · (first | exact Go.Mix.wanted_none rfl | exact Go.Mix.wanted_tt rfl rfl rfl | exact Go.Mix.wanted_ff rfl rfl rfl)
    · obtain ⟨iv, rfl⟩ := hwv
      have hbv := HW.out iv
      (first | go_big_op | go_simp)
      have s1 := says_B ((hav 15 (by decide +kernel)).2 rfl).1
      go_at_call 21
      refine (Same_any va b1 21 21 vc q1 _ _ zz21 zz21 _ rfl rfl ((HV4.out.below hbv).mono hbv.size) s1 zz_bytes zz_bytes).mono ?_
      rintro e w' ⟨rfl, j, hj⟩
      simp only [decide_true]
      exact hK _ _ (Go.Flo.owes_is _ rfl (by rw [hj]; exact below_drews _ _ _))
    obtain rfl := hv.is
    go_simp
    refine hK _ ?_
    clear hK K hv
    (repeat (first | (refine Go.Flo.fw_calm rfl ?_ (fun K hK => ?_); (first | exact Go.Mix.wanted_none rfl | exact Go.Mix.wanted_tt rfl rfl rfl | exact Go.Mix.wanted_ff rfl rfl rfl); go_big_quiet_op; refine hK _ ?_; clear hK K) | (refine Go.Flo.fw_skip ?_ (fun K hK => ?_); (first | exact Go.Mix.wanted_tf rfl rfl rfl | exact Go.Mix.wanted_ft rfl rfl rfl); go_simp; refine hK _ ?_; clear hK K) | (refine Go.Flo.fw_any rfl ?_ (fun K hK => ?_); (first | exact Go.Mix.wanted_none rfl | exact Go.Mix.wanted_tt rfl rfl rfl | exact Go.Mix.wanted_ff rfl rfl rfl); go_simp; (try (go_ints; try go_simp)); refine hK _ ?_; clear hK K)))
    (refine Go.Flo.fw_calm rfl ?_ (fun K hK => ?_); (first | exact Go.Mix.wanted_none rfl | exact Go.Mix.wanted_tt rfl rfl rfl | exact Go.Mix.wanted_ff rfl rfl rfl); refine Go.Flo.quiet_load_row 28 _ rfl g rfl _ #[.int .u16 cxDef.f, .int .u16 cxDef.i, .int .u8 cxDef.r0, .int .u8 cxDef.r1, .int .u8 cxDef.r2, .int .u8 cxDef.r3, .int .u8 cxDef.r4, .int .u8 cxDef.r5, .int .i8 cxDef.c0, .int .i8 cxDef.c1, .int .i8 cxDef.c2, .int .i8 cxDef.c3, .int .i8 cxDef.c4, .int .i8 cxDef.c5, .int .u8 cxDef.m, .int .u16 cxDef.n, .bool cxDef.x, .int .u8 cxDef.h] _ (by rintro _ ⟨i, rfl⟩; exact ((HW.out i).block g hgl).trans HBX.out) Try.underlying28 rfl size_cx ?_; go_simp; refine hK _ ?_; clear hK K)
    refine Go.Flo.fw_loud rfl ?_ rfl (by simp) (fun wv hwv hav K hK => ?_) (fun v hv K hK => ?_)
    · (first | exact Go.Mix.wanted_none rfl | exact Go.Mix.wanted_tt rfl rfl rfl | exact Go.Mix.wanted_ff rfl rfl rfl)
    · obtain ⟨iv, rfl⟩ := hwv
      have hbv := HW.out iv
      (first | go_big_op | go_simp)
      go_at_call 28
      refine (Default_any _).mono ?_
      rintro e w' ⟨rfl, hbb⟩
      exact hK _ _ (Go.Flo.owes_is _ rfl hbb)
    obtain rfl := hv.is
    go_simp
    refine hK _ ?_
    clear hK K hv
    (repeat (first | (refine Go.Flo.fw_calm rfl ?_ (fun K hK => ?_); (first | exact Go.Mix.wanted_none rfl | exact Go.Mix.wanted_tt rfl rfl rfl | exact Go.Mix.wanted_ff rfl rfl rfl); go_big_quiet_op; refine hK _ ?_; clear hK K) | (refine Go.Flo.fw_skip ?_ (fun K hK => ?_); (first | exact Go.Mix.wanted_tf rfl rfl rfl | exact Go.Mix.wanted_ft rfl rfl rfl); go_simp; refine hK _ ?_; clear hK K) | (refine Go.Flo.fw_any rfl ?_ (fun K hK => ?_); (first | exact Go.Mix.wanted_none rfl | exact Go.Mix.wanted_tt rfl rfl rfl | exact Go.Mix.wanted_ff rfl rfl rfl); go_simp; (try (go_ints; try go_simp)); refine hK _ ?_; clear hK K)))
    refine Go.Flo.fw_nil ?_
    intro w5 hww5 hfw5 huw5
    refine Go.Flo.tw_nil ?_
    obtain ⟨iend, hiend⟩ := hww5
    have hbw5 := HW.out iend
    rw [← hiend] at hbw5
    clear hiend iend huw5
    clear hfw5 HJ HW hne e8
    clear W I
    go_wp2
    go_ret
    exact ⟨rfl, HB4.out.trans (hbw5.mono HB4.out.size)⟩
  · exact absurd good_zz hne
end Go.Proofs.Ytpgophkegjeheaa
