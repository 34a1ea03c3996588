/- Layer 15: statuses. -/
import Derived.Test.YtbomkneajmgckaaLaw15r
namespace Go.Proofs.Ytbomkneajmgckaa
open Go.RowKit Go.Own
set_option linter.unusedVariables false
set_option linter.unusedSimpArgs false
/- behind the name: #1 the status, #2 its name, #3 the proof of its name, #4 does it violate? -/
set_option maxRecDepth 100000 in
set_option maxHeartbeats 8000000 in
theorem walk_CheckLooks (n0_0 n0_1 n0_2 n0_3 n0_4 n0_5 x1 x2 : Int) (x3 : Bool) (x4 : Int) (w : World) (w0_0 : (Lit.int .u8 n0_0).wf = true) (w0_1 : (Lit.int .i64 n0_1).wf = true) (w0_2 : (Lit.int .i32 n0_2).wf = true) (w0_3 : (Lit.int .i32 n0_3).wf = true) (w0_4 : (Lit.int .u32 n0_4).wf = true) (w0_5 : (Lit.int .u32 n0_5).wf = true)
    (w1 : (Lit.int .i32 x1).wf = true) (w2 : (Lit.int .i32 x2).wf = true) (w4 : (Lit.int .u8 x4).wf = true) :
    Calls Try.prog 7 #[.agg #[.int .u8 n0_0, .int .i64 n0_1, .int .i32 n0_2, .int .i32 n0_3, .int .u32 n0_4, .int .u32 n0_5], .int .i32 x1, .int .i32 x2, .bool x3, .int .u8 x4] w fun e w' => e = .returned (.bool true) ∧ Below w.heap.size w w' := by
  have b0 := bounds_u8 w0_0
  have b1 := bounds_i64 w0_1
  have b2 := bounds_i32 w0_2
  have b3 := bounds_i32 w0_3
  have b4 := bounds_u32 w0_4
  have b5 := bounds_u32 w0_5
  have c1 := bounds_i32 w1
  have c2 := bounds_i32 w2
  have c4 := bounds_u8 w4
  clear w0_0 w0_1 w0_2 w0_3 w0_4 w0_5 w1 w2 w4
  obtain ⟨m, rfl⟩ := Int.eq_ofNat_of_zero_le b4.1
  obtain ⟨n, rfl⟩ := Int.eq_ofNat_of_zero_le b5.1
  have HOK := Lib.hid (Df.ok.mk (d := Df.mk n0_0 n0_1 n0_2 n0_3 m n) b0.1 b0.2 b1.1 b1.2 b2.1 b2.2 b3.1 b3.2 (by show m < _; omega) (by show n < _; omega))
  have HD := Lib.hid (And.intro c1 c2)
  obtain ⟨v, hv⟩ : ∃ v, (Df.mk n0_0 n0_1 n0_2 n0_3 m n).look x1 x2 x3 = v := ⟨_, rfl⟩
  obtain ⟨t, ht⟩ : ∃ t, (Df.mk n0_0 n0_1 n0_2 n0_3 m n).right = t := ⟨_, rfl⟩
  have hv4 : 0 ≤ v ∧ v ≤ 4 := by rw [← hv]; exact Df.look_04 _ _ _ _
  have HV := Lib.hid (And.intro ht hv)
  have hst : x4 = 0 ∨ x4 = 1 ∨ x4 = 2 ∨ x4 = 3 ∨ x4 = 4 ∨ 5 ≤ x4 := by omega
  clear hv ht b0 b1 b2 b3 b4 b5 c1 c2
  go_enter Try.func7, Try.ntmps7
  go_wp2_with fail
  go_at_call 43
  refine (awake15 _).mono ?_
  rintro e wb ⟨rfl, hb1⟩
  have g0 := box_below (heap_alloc_new w (.cells #[.int .u8 n0_0, .int .i64 n0_1, .int .i32 n0_2, .int .i32 n0_3, .int .u32 ((m : Nat) : Int), .int .u32 ((n : Nat) : Int)] 92)) hb1 (by simp)
  have hb2 := ((Below.refl w.heap.size w).alloc (Nat.le_refl _) (.cells #[.int .u8 n0_0, .int .i64 n0_1, .int .i32 n0_2, .int .i32 n0_3, .int .u32 ((m : Nat) : Int), .int .u32 ((n : Nat) : Int)] 92)).trans (hb1.mono (by simp))
  obtain ⟨g, hg⟩ : ∃ g, g = w.heap.size := ⟨_, rfl⟩
  rw [← hg] at g0 ⊢
  have HG := Lib.hid hg
  clear hg hb1
  have g2 := heap_alloc_new wb (.cells #[.int .u8 n0_0, .int .i64 n0_1, .int .i32 n0_2, .int .i32 n0_3, .int .u32 ((m : Nat) : Int), .int .u32 ((n : Nat) : Int)] 93)
  have g3 := box_below g0 ((Below.refl wb.heap.size wb).alloc (Nat.le_refl _) (.cells #[.int .u8 n0_0, .int .i64 n0_1, .int .i32 n0_2, .int .i32 n0_3, .int .u32 ((m : Nat) : Int), .int .u32 ((n : Nat) : Int)] 93)) (box_lt g0)
  have hb3 := hb2.alloc hb2.size (.cells #[.int .u8 n0_0, .int .i64 n0_1, .int .i32 n0_2, .int .i32 n0_3, .int .u32 ((m : Nat) : Int), .int .u32 ((n : Nat) : Int)] 93)
  have HS := Lib.hid (CkSt.mk hb3 g3 g2)
  have a0 := cell_of_row _ _ 0 _ _ _ g0
  have a1 := cell_of_row _ _ 1 _ _ _ g0
  have a2 := cell_of_row _ _ 2 _ _ _ g0
  have a3 := cell_of_row _ _ 3 _ _ _ g0
  have a4 := cell_of_row _ _ 4 _ _ _ g0
  have a5 := cell_of_row _ _ 5 _ _ _ g0
  have hal : Below (wb.alloc (.cells #[.int .u8 n0_0, .int .i64 n0_1, .int .i32 n0_2, .int .i32 n0_3, .int .u32 ((m : Nat) : Int), .int .u32 ((n : Nat) : Int)] 93)).heap.size (wb.alloc (.cells #[.int .u8 n0_0, .int .i64 n0_1, .int .i32 n0_2, .int .i32 n0_3, .int .u32 ((m : Nat) : Int), .int .u32 ((n : Nat) : Int)] 93)) ((wb.alloc (.cells #[.int .u8 n0_0, .int .i64 n0_1, .int .i32 n0_2, .int .i32 n0_3, .int .u32 ((m : Nat) : Int), .int .u32 ((n : Nat) : Int)] 93)).alloc (.cells #[.string { data := #[117, 110, 99, 104, 101, 99, 107, 101, 100] }, .string { data := #[119, 105, 116, 104, 105, 110] }, .string { data := #[98, 101, 108, 111, 119] }, .string { data := #[97, 98, 111, 118, 101] }, .string { data := #[117, 110, 101, 120, 112, 101, 99, 116, 101, 100] }] 9)) := (Below.refl _ _).alloc (Nat.le_refl _) _
  have HS5 := Lib.hid (HS.out.step hal)
  clear hal
  rcases hst with rfl | rfl | rfl | rfl | rfl | hst
  case inr.inr.inr.inr.inr =>
    clear HS5
    have h2 : (x4 == 2) = false := by simp; omega
    have h3 : (x4 == 3) = false := by simp; omega
    have h4 : (x4 == 4) = false := by simp; omega
    have HST := Lib.hid hst
    have hv2 := Lib.hid (show vio x4 = false by simp [vio]; omega)
    go_wp2_with fail
    obtain ⟨f, hf⟩ : ∃ f, f = wb.heap.size := ⟨_, rfl⟩
    obtain ⟨wy, hwy⟩ : ∃ wy, wy = wb.alloc (.cells #[.int .u8 n0_0, .int .i64 n0_1, .int .i32 n0_2, .int .i32 n0_3, .int .u32 ((m : Nat) : Int), .int .u32 ((n : Nat) : Int)] 93) := ⟨_, rfl⟩
    rw [← hwy, ← hf] at HS
    rw [← hwy, ← hf]
    clear hwy hf hb2 hb3 g0 g2 g3 a0 a1 a2 a3 a4 a5
    skip
    have hgl := box_lt HS.out.ba
    have hfl := box_lt HS.out.bb
    have a0 := cell_of_row _ _ 0 _ _ _ HS.out.ba
    have a1 := cell_of_row _ _ 1 _ _ _ HS.out.ba
    have a2 := cell_of_row _ _ 2 _ _ _ HS.out.ba
    have a3 := cell_of_row _ _ 3 _ _ _ HS.out.ba
    have a4 := cell_of_row _ _ 4 _ _ _ HS.out.ba
    have a5 := cell_of_row _ _ 5 _ _ _ HS.out.ba
    have d0 := cell_of_row _ _ 0 _ _ _ HS.out.bb
    have d1 := cell_of_row _ _ 1 _ _ _ HS.out.bb
    have d2 := cell_of_row _ _ 2 _ _ _ HS.out.bb
    have d3 := cell_of_row _ _ 3 _ _ _ HS.out.bb
    have d4 := cell_of_row _ _ 4 _ _ _ HS.out.bb
    have d5 := cell_of_row _ _ 5 _ _ _ HS.out.bb
    obtain ⟨I, W, hne, hWI, hIW⟩ := Go.Mix.family (fun v => Below wy.heap.size wy v) (Below.refl _ _)
    have HJ := Lib.hid hIW
    have HW := Lib.hid hWI
    clear hWI hIW
    refine Go.Flo.wp_region (fun w' => ∃ i, w' = W i) 41 [Go.Flo.Spec.is (.bool t), Go.Flo.Spec.is (.bool t), Go.Flo.Spec.is (.int .u8 v), Go.Flo.Spec.is (.int .i64 v), Go.Flo.Spec.is (.bool false), Go.Flo.Spec.is (.string ({ data := #[] } : ByteArray))] (by kernel_rfl) (by kernel_rfl) (by decide) (by rintro _ w' ⟨i, rfl⟩ hb; exact HJ.out _ ((HW.out i).trans (hb.mono (HW.out i).size))) (HJ.out _ (Below.refl _ _).drew) ?_
    simp only [Go.Flo.pair, Go.Mix.calm, List.take, List.drop, if_true, Bool.false_eq_true, if_false, Nat.reduceAdd, Nat.reduceSub]
    have k0 : ∀ i, (W i).cell? ⟨g, 0, none⟩ = some (.int .u8 n0_0) := fun i => ((HW.out i).cell (p := ⟨g, 0, none⟩) hgl).trans a0
    have k1 : ∀ i, (W i).cell? ⟨g, 1, none⟩ = some (.int .i64 n0_1) := fun i => ((HW.out i).cell (p := ⟨g, 1, none⟩) hgl).trans a1
    have k2 : ∀ i, (W i).cell? ⟨g, 2, none⟩ = some (.int .i32 n0_2) := fun i => ((HW.out i).cell (p := ⟨g, 2, none⟩) hgl).trans a2
    have k3 : ∀ i, (W i).cell? ⟨g, 3, none⟩ = some (.int .i32 n0_3) := fun i => ((HW.out i).cell (p := ⟨g, 3, none⟩) hgl).trans a3
    have k4 : ∀ i, (W i).cell? ⟨g, 4, none⟩ = some (.int .u32 (m : Int)) := fun i => ((HW.out i).cell (p := ⟨g, 4, none⟩) hgl).trans a4
    have k5 : ∀ i, (W i).cell? ⟨g, 5, none⟩ = some (.int .u32 (n : Int)) := fun i => ((HW.out i).cell (p := ⟨g, 5, none⟩) hgl).trans a5
    have j0 : ∀ i, (W i).cell? ⟨f, 0, none⟩ = some (.int .u8 n0_0) := fun i => ((HW.out i).cell (p := ⟨f, 0, none⟩) hfl).trans d0
    have j1 : ∀ i, (W i).cell? ⟨f, 1, none⟩ = some (.int .i64 n0_1) := fun i => ((HW.out i).cell (p := ⟨f, 1, none⟩) hfl).trans d1
    have j2 : ∀ i, (W i).cell? ⟨f, 2, none⟩ = some (.int .i32 n0_2) := fun i => ((HW.out i).cell (p := ⟨f, 2, none⟩) hfl).trans d2
    have j3 : ∀ i, (W i).cell? ⟨f, 3, none⟩ = some (.int .i32 n0_3) := fun i => ((HW.out i).cell (p := ⟨f, 3, none⟩) hfl).trans d3
    have j4 : ∀ i, (W i).cell? ⟨f, 4, none⟩ = some (.int .u32 (m : Int)) := fun i => ((HW.out i).cell (p := ⟨f, 4, none⟩) hfl).trans d4
    have j5 : ∀ i, (W i).cell? ⟨f, 5, none⟩ = some (.int .u32 (n : Int)) := fun i => ((HW.out i).cell (p := ⟨f, 5, none⟩) hfl).trans d5
    (repeat (first | (refine Go.Flo.fw_calm rfl ?_ (fun K hK => ?_); (first | exact Go.Mix.wanted_none rfl | exact Go.Mix.wanted_tt rfl rfl rfl | exact Go.Mix.wanted_ff rfl rfl rfl); go_big_quiet_op; refine hK _ ?_; clear hK K) | (refine Go.Flo.fw_skip ?_ (fun K hK => ?_); (first | exact Go.Mix.wanted_tf rfl rfl rfl | exact Go.Mix.wanted_ft rfl rfl rfl); go_simp; refine hK _ ?_; clear hK K) | (refine Go.Flo.fw_any rfl ?_ (fun K hK => ?_); (first | exact Go.Mix.wanted_none rfl | exact Go.Mix.wanted_tt rfl rfl rfl | exact Go.Mix.wanted_ff rfl rfl rfl); go_simp; (try (go_ints; try go_simp)); refine hK _ ?_; clear hK K)))
    refine Go.Flo.fw_loud rfl ?_ rfl (by simp) (fun wv hwv hav K hK => ?_) (fun v hv K hK => ?_)
    · (first | exact Go.Mix.wanted_none rfl | exact Go.Mix.wanted_tt rfl rfl rfl | exact Go.Mix.wanted_ff rfl rfl rfl)
    · obtain ⟨iv, rfl⟩ := hwv
      have hbv := HW.out iv
      (first | go_big_op | go_simp)
      go_at_call 44
      refine (Right_at n0_0 n0_1 n0_2 n0_3 m n t _ HV.out.1).mono ?_
      rintro e w' ⟨rfl, hb⟩
      exact hK _ _ (Go.Flo.owes_is _ rfl hb)
    obtain rfl := hv.is
    go_simp
    refine hK _ ?_
    clear hK K hv
    (repeat (first | (refine Go.Flo.fw_calm rfl ?_ (fun K hK => ?_); (first | exact Go.Mix.wanted_none rfl | exact Go.Mix.wanted_tt rfl rfl rfl | exact Go.Mix.wanted_ff rfl rfl rfl); go_big_quiet_op; refine hK _ ?_; clear hK K) | (refine Go.Flo.fw_skip ?_ (fun K hK => ?_); (first | exact Go.Mix.wanted_tf rfl rfl rfl | exact Go.Mix.wanted_ft rfl rfl rfl); go_simp; refine hK _ ?_; clear hK K) | (refine Go.Flo.fw_any rfl ?_ (fun K hK => ?_); (first | exact Go.Mix.wanted_none rfl | exact Go.Mix.wanted_tt rfl rfl rfl | exact Go.Mix.wanted_ff rfl rfl rfl); go_simp; (try (go_ints; try go_simp)); refine hK _ ?_; clear hK K)))
    refine Go.Flo.fw_loud rfl ?_ rfl (by simp) (fun wv hwv hav K hK => ?_) (fun v hv K hK => ?_)
    · (first | exact Go.Mix.wanted_none rfl | exact Go.Mix.wanted_tt rfl rfl rfl | exact Go.Mix.wanted_ff rfl rfl rfl)
    · obtain ⟨iv, rfl⟩ := hwv
      have hbv := HW.out iv
      (first | go_big_op | go_simp)
      go_at_call 45
      refine (rRightD n0_0 n0_1 n0_2 n0_3 m n t _ HV.out.1).mono ?_
      rintro e w' ⟨rfl, hb⟩
      exact hK _ _ (Go.Flo.owes_is _ rfl hb)
    obtain rfl := hv.is
    go_simp
    refine hK _ ?_
    clear hK K hv
    (repeat (first | (refine Go.Flo.fw_calm rfl ?_ (fun K hK => ?_); (first | exact Go.Mix.wanted_none rfl | exact Go.Mix.wanted_tt rfl rfl rfl | exact Go.Mix.wanted_ff rfl rfl rfl); go_big_quiet_op; refine hK _ ?_; clear hK K) | (refine Go.Flo.fw_skip ?_ (fun K hK => ?_); (first | exact Go.Mix.wanted_tf rfl rfl rfl | exact Go.Mix.wanted_ft rfl rfl rfl); go_simp; refine hK _ ?_; clear hK K) | (refine Go.Flo.fw_any rfl ?_ (fun K hK => ?_); (first | exact Go.Mix.wanted_none rfl | exact Go.Mix.wanted_tt rfl rfl rfl | exact Go.Mix.wanted_ff rfl rfl rfl); go_simp; (try (go_ints; try go_simp)); refine hK _ ?_; clear hK K)))
    refine Go.Flo.fw_loud rfl ?_ rfl (by simp) (fun wv hwv hav K hK => ?_) (fun v hv K hK => ?_)
    · (first | exact Go.Mix.wanted_none rfl | exact Go.Mix.wanted_tt rfl rfl rfl | exact Go.Mix.wanted_ff rfl rfl rfl)
    · obtain ⟨iv, rfl⟩ := hwv
      have hbv := HW.out iv
      (first | go_big_op | go_simp)
      go_at_call 46
      with_reducible refine (Look_at n0_0 n0_1 n0_2 n0_3 m n x1 x2 x3 v _ HOK.out HD.out.1.1 HD.out.1.2 HD.out.2.1 HD.out.2.2 HV.out.2).mono ?_
      rintro e w' ⟨rfl, hb⟩
      exact hK _ _ (Go.Flo.owes_is _ rfl hb)
    obtain rfl := hv.is
    go_simp
    refine hK _ ?_
    clear hK K hv
    (repeat (first | (refine Go.Flo.fw_calm rfl ?_ (fun K hK => ?_); (first | exact Go.Mix.wanted_none rfl | exact Go.Mix.wanted_tt rfl rfl rfl | exact Go.Mix.wanted_ff rfl rfl rfl); go_big_quiet_op; refine hK _ ?_; clear hK K) | (refine Go.Flo.fw_skip ?_ (fun K hK => ?_); (first | exact Go.Mix.wanted_tf rfl rfl rfl | exact Go.Mix.wanted_ft rfl rfl rfl); go_simp; refine hK _ ?_; clear hK K) | (refine Go.Flo.fw_any rfl ?_ (fun K hK => ?_); (first | exact Go.Mix.wanted_none rfl | exact Go.Mix.wanted_tt rfl rfl rfl | exact Go.Mix.wanted_ff rfl rfl rfl); go_simp; (try (go_ints; try go_simp)); refine hK _ ?_; clear hK K)))
    refine Go.Flo.fw_loud rfl ?_ rfl (by simp) (fun wv hwv hav K hK => ?_) (fun v hv K hK => ?_)
    · (first | exact Go.Mix.wanted_none rfl | exact Go.Mix.wanted_tt rfl rfl rfl | exact Go.Mix.wanted_ff rfl rfl rfl)
    · obtain ⟨iv, rfl⟩ := hwv
      have hbv := HW.out iv
      (first | go_big_op | go_simp)
      go_at_call 47
      refine (rLook_at n0_0 n0_1 n0_2 n0_3 m n x1 x2 x3 v _ HOK.out HD.out.1.1 HD.out.1.2 HD.out.2.1 HD.out.2.2 HV.out.2).mono ?_
      rintro e w' ⟨rfl, hb⟩
      exact hK _ _ (Go.Flo.owes_is _ rfl hb)
    obtain rfl := hv.is
    go_simp
    refine hK _ ?_
    clear hK K hv
    (repeat (first | (refine Go.Flo.fw_calm rfl ?_ (fun K hK => ?_); (first | exact Go.Mix.wanted_none rfl | exact Go.Mix.wanted_tt rfl rfl rfl | exact Go.Mix.wanted_ff rfl rfl rfl); go_big_quiet_op; refine hK _ ?_; clear hK K) | (refine Go.Flo.fw_skip ?_ (fun K hK => ?_); (first | exact Go.Mix.wanted_tf rfl rfl rfl | exact Go.Mix.wanted_ft rfl rfl rfl); go_simp; refine hK _ ?_; clear hK K) | (refine Go.Flo.fw_any rfl ?_ (fun K hK => ?_); (first | exact Go.Mix.wanted_none rfl | exact Go.Mix.wanted_tt rfl rfl rfl | exact Go.Mix.wanted_ff rfl rfl rfl); go_simp; (try (go_ints; try go_simp)); refine hK _ ?_; clear hK K)))
    refine Go.Flo.fw_loud rfl ?_ rfl (by simp) (fun wv hwv hav K hK => ?_) (fun v hv K hK => ?_)
    · (first | exact Go.Mix.wanted_none rfl | exact Go.Mix.wanted_tt rfl rfl rfl | exact Go.Mix.wanted_ff rfl rfl rfl)
    · obtain ⟨iv, rfl⟩ := hwv
      have hbv := HW.out iv
      (first | go_big_op | go_simp)
      go_at_call 48
      refine (Vio_at x4 false _ hv2.out).mono ?_
      rintro e w' ⟨rfl, rfl⟩
      exact hK _ _ (Go.Flo.owes_is _ rfl (Below.refl _ _))
    obtain rfl := hv.is
    go_simp
    refine hK _ ?_
    clear hK K hv
    (repeat (first | (refine Go.Flo.fw_calm rfl ?_ (fun K hK => ?_); (first | exact Go.Mix.wanted_none rfl | exact Go.Mix.wanted_tt rfl rfl rfl | exact Go.Mix.wanted_ff rfl rfl rfl); go_big_quiet_op; refine hK _ ?_; clear hK K) | (refine Go.Flo.fw_skip ?_ (fun K hK => ?_); (first | exact Go.Mix.wanted_tf rfl rfl rfl | exact Go.Mix.wanted_ft rfl rfl rfl); go_simp; refine hK _ ?_; clear hK K) | (refine Go.Flo.fw_any rfl ?_ (fun K hK => ?_); (first | exact Go.Mix.wanted_none rfl | exact Go.Mix.wanted_tt rfl rfl rfl | exact Go.Mix.wanted_ff rfl rfl rfl); go_simp; (try (go_ints; try go_simp)); refine hK _ ?_; clear hK K)))
    refine Go.Flo.fw_loud rfl ?_ rfl (by simp) (fun wv hwv hav K hK => ?_) (fun v hv K hK => ?_)
    · (first | exact Go.Mix.wanted_none rfl | exact Go.Mix.wanted_tt rfl rfl rfl | exact Go.Mix.wanted_ff rfl rfl rfl)
    · obtain ⟨iv, rfl⟩ := hwv
      have hbv := HW.out iv
      (first | go_big_op | go_simp)
      go_at_call 49
      refine (Name_at x4 ({ data := #[] } : ByteArray) _ (.inr (.inr (.inr (.inr (.inr ⟨by have := HST.out; omega, rfl⟩)))))).mono ?_
      rintro e w' ⟨rfl, rfl⟩
      exact hK _ _ (Go.Flo.owes_is _ rfl (Below.refl _ _))
    obtain rfl := hv.is
    go_simp
    refine hK _ ?_
    clear hK K hv
    (repeat (first | (refine Go.Flo.fw_calm rfl ?_ (fun K hK => ?_); (first | exact Go.Mix.wanted_none rfl | exact Go.Mix.wanted_tt rfl rfl rfl | exact Go.Mix.wanted_ff rfl rfl rfl); go_big_quiet_op; refine hK _ ?_; clear hK K) | (refine Go.Flo.fw_skip ?_ (fun K hK => ?_); (first | exact Go.Mix.wanted_tf rfl rfl rfl | exact Go.Mix.wanted_ft rfl rfl rfl); go_simp; refine hK _ ?_; clear hK K) | (refine Go.Flo.fw_any rfl ?_ (fun K hK => ?_); (first | exact Go.Mix.wanted_none rfl | exact Go.Mix.wanted_tt rfl rfl rfl | exact Go.Mix.wanted_ff rfl rfl rfl); go_simp; (try (go_ints; try go_simp)); refine hK _ ?_; clear hK K)))
    refine Go.Flo.fw_nil ?_
    intro wz hwwz hfwz huwz
    refine Go.Flo.tw_nil ?_
    obtain ⟨iend, hiend⟩ := hwwz
    have hbwz := HW.out iend
    rw [← hiend] at hbwz
    clear hiend iend huwz
    have HB := Lib.hid (HS.out.be.trans (hbwz.mono HS.out.be.size))
    clear hfwz HJ HW hne k0 k1 k2 k3 k4 k5 a0 a1 a2 a3 a4 a5 hbwz j0 j1 j2 j3 j4 j5 d0 d1 d2 d3 d4 d5
    clear W I
    go_wp2
    go_ret
    exact ⟨rfl, HB.out⟩
  case inl =>
    clear HS
    go_wp2_with fail
    obtain ⟨f, hf⟩ : ∃ f, f = wb.heap.size := ⟨_, rfl⟩
    obtain ⟨wy, hwy⟩ : ∃ wy, wy = ((wb.alloc (.cells #[.int .u8 n0_0, .int .i64 n0_1, .int .i32 n0_2, .int .i32 n0_3, .int .u32 ((m : Nat) : Int), .int .u32 ((n : Nat) : Int)] 93)).alloc (.cells #[.string { data := #[117, 110, 99, 104, 101, 99, 107, 101, 100] }, .string { data := #[119, 105, 116, 104, 105, 110] }, .string { data := #[98, 101, 108, 111, 119] }, .string { data := #[97, 98, 111, 118, 101] }, .string { data := #[117, 110, 101, 120, 112, 101, 99, 116, 101, 100] }] 9)) := ⟨_, rfl⟩
    rw [← hwy, ← hf] at HS5
    rw [← hwy, ← hf]
    clear hwy hf hb2 hb3 g0 g2 g3 a0 a1 a2 a3 a4 a5
    have HS := HS5
    clear HS5
    skip
    have hgl := box_lt HS.out.ba
    have hfl := box_lt HS.out.bb
    have a0 := cell_of_row _ _ 0 _ _ _ HS.out.ba
    have a1 := cell_of_row _ _ 1 _ _ _ HS.out.ba
    have a2 := cell_of_row _ _ 2 _ _ _ HS.out.ba
    have a3 := cell_of_row _ _ 3 _ _ _ HS.out.ba
    have a4 := cell_of_row _ _ 4 _ _ _ HS.out.ba
    have a5 := cell_of_row _ _ 5 _ _ _ HS.out.ba
    have d0 := cell_of_row _ _ 0 _ _ _ HS.out.bb
    have d1 := cell_of_row _ _ 1 _ _ _ HS.out.bb
    have d2 := cell_of_row _ _ 2 _ _ _ HS.out.bb
    have d3 := cell_of_row _ _ 3 _ _ _ HS.out.bb
    have d4 := cell_of_row _ _ 4 _ _ _ HS.out.bb
    have d5 := cell_of_row _ _ 5 _ _ _ HS.out.bb
    obtain ⟨I, W, hne, hWI, hIW⟩ := Go.Mix.family (fun v => Below wy.heap.size wy v) (Below.refl _ _)
    have HJ := Lib.hid hIW
    have HW := Lib.hid hWI
    clear hWI hIW
    refine Go.Flo.wp_region (fun w' => ∃ i, w' = W i) 41 [Go.Flo.Spec.is (.bool t), Go.Flo.Spec.is (.bool t), Go.Flo.Spec.is (.int .u8 v), Go.Flo.Spec.is (.int .i64 v), Go.Flo.Spec.is (.bool false), Go.Flo.Spec.is (.string ({ data := #[117, 110, 99, 104, 101, 99, 107, 101, 100] } : ByteArray))] (by kernel_rfl) (by kernel_rfl) (by decide) (by rintro _ w' ⟨i, rfl⟩ hb; exact HJ.out _ ((HW.out i).trans (hb.mono (HW.out i).size))) (HJ.out _ (Below.refl _ _).drew) ?_
    simp only [Go.Flo.pair, Go.Mix.calm, List.take, List.drop, if_true, Bool.false_eq_true, if_false, Nat.reduceAdd, Nat.reduceSub]
    have k0 : ∀ i, (W i).cell? ⟨g, 0, none⟩ = some (.int .u8 n0_0) := fun i => ((HW.out i).cell (p := ⟨g, 0, none⟩) hgl).trans a0
    have k1 : ∀ i, (W i).cell? ⟨g, 1, none⟩ = some (.int .i64 n0_1) := fun i => ((HW.out i).cell (p := ⟨g, 1, none⟩) hgl).trans a1
    have k2 : ∀ i, (W i).cell? ⟨g, 2, none⟩ = some (.int .i32 n0_2) := fun i => ((HW.out i).cell (p := ⟨g, 2, none⟩) hgl).trans a2
    have k3 : ∀ i, (W i).cell? ⟨g, 3, none⟩ = some (.int .i32 n0_3) := fun i => ((HW.out i).cell (p := ⟨g, 3, none⟩) hgl).trans a3
    have k4 : ∀ i, (W i).cell? ⟨g, 4, none⟩ = some (.int .u32 (m : Int)) := fun i => ((HW.out i).cell (p := ⟨g, 4, none⟩) hgl).trans a4
    have k5 : ∀ i, (W i).cell? ⟨g, 5, none⟩ = some (.int .u32 (n : Int)) := fun i => ((HW.out i).cell (p := ⟨g, 5, none⟩) hgl).trans a5
    have j0 : ∀ i, (W i).cell? ⟨f, 0, none⟩ = some (.int .u8 n0_0) := fun i => ((HW.out i).cell (p := ⟨f, 0, none⟩) hfl).trans d0
    have j1 : ∀ i, (W i).cell? ⟨f, 1, none⟩ = some (.int .i64 n0_1) := fun i => ((HW.out i).cell (p := ⟨f, 1, none⟩) hfl).trans d1
    have j2 : ∀ i, (W i).cell? ⟨f, 2, none⟩ = some (.int .i32 n0_2) := fun i => ((HW.out i).cell (p := ⟨f, 2, none⟩) hfl).trans d2
    have j3 : ∀ i, (W i).cell? ⟨f, 3, none⟩ = some (.int .i32 n0_3) := fun i => ((HW.out i).cell (p := ⟨f, 3, none⟩) hfl).trans d3
    have j4 : ∀ i, (W i).cell? ⟨f, 4, none⟩ = some (.int .u32 (m : Int)) := fun i => ((HW.out i).cell (p := ⟨f, 4, none⟩) hfl).trans d4
    have j5 : ∀ i, (W i).cell? ⟨f, 5, none⟩ = some (.int .u32 (n : Int)) := fun i => ((HW.out i).cell (p := ⟨f, 5, none⟩) hfl).trans d5
    (repeat (first | (refine Go.Flo.fw_calm rfl ?_ (fun K hK => ?_); (first | exact Go.Mix.wanted_none rfl | exact Go.Mix.wanted_tt rfl rfl rfl | exact Go.Mix.wanted_ff rfl rfl rfl); go_big_quiet_op; refine hK _ ?_; clear hK K) | (refine Go.Flo.fw_skip ?_ (fun K hK => ?_); (first | exact Go.Mix.wanted_tf rfl rfl rfl | exact Go.Mix.wanted_ft rfl rfl rfl); go_simp; refine hK _ ?_; clear hK K) | (refine Go.Flo.fw_any rfl ?_ (fun K hK => ?_); (first | exact Go.Mix.wanted_none rfl | exact Go.Mix.wanted_tt rfl rfl rfl | exact Go.Mix.wanted_ff rfl rfl rfl); go_simp; (try (go_ints; try go_simp)); refine hK _ ?_; clear hK K)))
    refine Go.Flo.fw_loud rfl ?_ rfl (by simp) (fun wv hwv hav K hK => ?_) (fun v hv K hK => ?_)
    · (first | exact Go.Mix.wanted_none rfl | exact Go.Mix.wanted_tt rfl rfl rfl | exact Go.Mix.wanted_ff rfl rfl rfl)
    · obtain ⟨iv, rfl⟩ := hwv
      have hbv := HW.out iv
      (first | go_big_op | go_simp)
      go_at_call 44
      refine (Right_at n0_0 n0_1 n0_2 n0_3 m n t _ HV.out.1).mono ?_
      rintro e w' ⟨rfl, hb⟩
      exact hK _ _ (Go.Flo.owes_is _ rfl hb)
    obtain rfl := hv.is
    go_simp
    refine hK _ ?_
    clear hK K hv
    (repeat (first | (refine Go.Flo.fw_calm rfl ?_ (fun K hK => ?_); (first | exact Go.Mix.wanted_none rfl | exact Go.Mix.wanted_tt rfl rfl rfl | exact Go.Mix.wanted_ff rfl rfl rfl); go_big_quiet_op; refine hK _ ?_; clear hK K) | (refine Go.Flo.fw_skip ?_ (fun K hK => ?_); (first | exact Go.Mix.wanted_tf rfl rfl rfl | exact Go.Mix.wanted_ft rfl rfl rfl); go_simp; refine hK _ ?_; clear hK K) | (refine Go.Flo.fw_any rfl ?_ (fun K hK => ?_); (first | exact Go.Mix.wanted_none rfl | exact Go.Mix.wanted_tt rfl rfl rfl | exact Go.Mix.wanted_ff rfl rfl rfl); go_simp; (try (go_ints; try go_simp)); refine hK _ ?_; clear hK K)))
    refine Go.Flo.fw_loud rfl ?_ rfl (by simp) (fun wv hwv hav K hK => ?_) (fun v hv K hK => ?_)
    · (first | exact Go.Mix.wanted_none rfl | exact Go.Mix.wanted_tt rfl rfl rfl | exact Go.Mix.wanted_ff rfl rfl rfl)
    · obtain ⟨iv, rfl⟩ := hwv
      have hbv := HW.out iv
      (first | go_big_op | go_simp)
      go_at_call 45
      refine (rRightD n0_0 n0_1 n0_2 n0_3 m n t _ HV.out.1).mono ?_
      rintro e w' ⟨rfl, hb⟩
      exact hK _ _ (Go.Flo.owes_is _ rfl hb)
    obtain rfl := hv.is
    go_simp
    refine hK _ ?_
    clear hK K hv
    (repeat (first | (refine Go.Flo.fw_calm rfl ?_ (fun K hK => ?_); (first | exact Go.Mix.wanted_none rfl | exact Go.Mix.wanted_tt rfl rfl rfl | exact Go.Mix.wanted_ff rfl rfl rfl); go_big_quiet_op; refine hK _ ?_; clear hK K) | (refine Go.Flo.fw_skip ?_ (fun K hK => ?_); (first | exact Go.Mix.wanted_tf rfl rfl rfl | exact Go.Mix.wanted_ft rfl rfl rfl); go_simp; refine hK _ ?_; clear hK K) | (refine Go.Flo.fw_any rfl ?_ (fun K hK => ?_); (first | exact Go.Mix.wanted_none rfl | exact Go.Mix.wanted_tt rfl rfl rfl | exact Go.Mix.wanted_ff rfl rfl rfl); go_simp; (try (go_ints; try go_simp)); refine hK _ ?_; clear hK K)))
    refine Go.Flo.fw_loud rfl ?_ rfl (by simp) (fun wv hwv hav K hK => ?_) (fun v hv K hK => ?_)
    · (first | exact Go.Mix.wanted_none rfl | exact Go.Mix.wanted_tt rfl rfl rfl | exact Go.Mix.wanted_ff rfl rfl rfl)
    · obtain ⟨iv, rfl⟩ := hwv
      have hbv := HW.out iv
      (first | go_big_op | go_simp)
      go_at_call 46
      with_reducible refine (Look_at n0_0 n0_1 n0_2 n0_3 m n x1 x2 x3 v _ HOK.out HD.out.1.1 HD.out.1.2 HD.out.2.1 HD.out.2.2 HV.out.2).mono ?_
      rintro e w' ⟨rfl, hb⟩
      exact hK _ _ (Go.Flo.owes_is _ rfl hb)
    obtain rfl := hv.is
    go_simp
    refine hK _ ?_
    clear hK K hv
    (repeat (first | (refine Go.Flo.fw_calm rfl ?_ (fun K hK => ?_); (first | exact Go.Mix.wanted_none rfl | exact Go.Mix.wanted_tt rfl rfl rfl | exact Go.Mix.wanted_ff rfl rfl rfl); go_big_quiet_op; refine hK _ ?_; clear hK K) | (refine Go.Flo.fw_skip ?_ (fun K hK => ?_); (first | exact Go.Mix.wanted_tf rfl rfl rfl | exact Go.Mix.wanted_ft rfl rfl rfl); go_simp; refine hK _ ?_; clear hK K) | (refine Go.Flo.fw_any rfl ?_ (fun K hK => ?_); (first | exact Go.Mix.wanted_none rfl | exact Go.Mix.wanted_tt rfl rfl rfl | exact Go.Mix.wanted_ff rfl rfl rfl); go_simp; (try (go_ints; try go_simp)); refine hK _ ?_; clear hK K)))
    refine Go.Flo.fw_loud rfl ?_ rfl (by simp) (fun wv hwv hav K hK => ?_) (fun v hv K hK => ?_)
    · (first | exact Go.Mix.wanted_none rfl | exact Go.Mix.wanted_tt rfl rfl rfl | exact Go.Mix.wanted_ff rfl rfl rfl)
    · obtain ⟨iv, rfl⟩ := hwv
      have hbv := HW.out iv
      (first | go_big_op | go_simp)
      go_at_call 47
      refine (rLook_at n0_0 n0_1 n0_2 n0_3 m n x1 x2 x3 v _ HOK.out HD.out.1.1 HD.out.1.2 HD.out.2.1 HD.out.2.2 HV.out.2).mono ?_
      rintro e w' ⟨rfl, hb⟩
      exact hK _ _ (Go.Flo.owes_is _ rfl hb)
    obtain rfl := hv.is
    go_simp
    refine hK _ ?_
    clear hK K hv
    (repeat (first | (refine Go.Flo.fw_calm rfl ?_ (fun K hK => ?_); (first | exact Go.Mix.wanted_none rfl | exact Go.Mix.wanted_tt rfl rfl rfl | exact Go.Mix.wanted_ff rfl rfl rfl); go_big_quiet_op; refine hK _ ?_; clear hK K) | (refine Go.Flo.fw_skip ?_ (fun K hK => ?_); (first | exact Go.Mix.wanted_tf rfl rfl rfl | exact Go.Mix.wanted_ft rfl rfl rfl); go_simp; refine hK _ ?_; clear hK K) | (refine Go.Flo.fw_any rfl ?_ (fun K hK => ?_); (first | exact Go.Mix.wanted_none rfl | exact Go.Mix.wanted_tt rfl rfl rfl | exact Go.Mix.wanted_ff rfl rfl rfl); go_simp; (try (go_ints; try go_simp)); refine hK _ ?_; clear hK K)))
    refine Go.Flo.fw_loud rfl ?_ rfl (by simp) (fun wv hwv hav K hK => ?_) (fun v hv K hK => ?_)
    · (first | exact Go.Mix.wanted_none rfl | exact Go.Mix.wanted_tt rfl rfl rfl | exact Go.Mix.wanted_ff rfl rfl rfl)
    · obtain ⟨iv, rfl⟩ := hwv
      have hbv := HW.out iv
      (first | go_big_op | go_simp)
      go_at_call 48
      refine (Vio_at 0 false _ rfl).mono ?_
      rintro e w' ⟨rfl, rfl⟩
      exact hK _ _ (Go.Flo.owes_is _ rfl (Below.refl _ _))
    obtain rfl := hv.is
    go_simp
    refine hK _ ?_
    clear hK K hv
    (repeat (first | (refine Go.Flo.fw_calm rfl ?_ (fun K hK => ?_); (first | exact Go.Mix.wanted_none rfl | exact Go.Mix.wanted_tt rfl rfl rfl | exact Go.Mix.wanted_ff rfl rfl rfl); go_big_quiet_op; refine hK _ ?_; clear hK K) | (refine Go.Flo.fw_skip ?_ (fun K hK => ?_); (first | exact Go.Mix.wanted_tf rfl rfl rfl | exact Go.Mix.wanted_ft rfl rfl rfl); go_simp; refine hK _ ?_; clear hK K) | (refine Go.Flo.fw_any rfl ?_ (fun K hK => ?_); (first | exact Go.Mix.wanted_none rfl | exact Go.Mix.wanted_tt rfl rfl rfl | exact Go.Mix.wanted_ff rfl rfl rfl); go_simp; (try (go_ints; try go_simp)); refine hK _ ?_; clear hK K)))
    refine Go.Flo.fw_loud rfl ?_ rfl (by simp) (fun wv hwv hav K hK => ?_) (fun v hv K hK => ?_)
    · (first | exact Go.Mix.wanted_none rfl | exact Go.Mix.wanted_tt rfl rfl rfl | exact Go.Mix.wanted_ff rfl rfl rfl)
    · obtain ⟨iv, rfl⟩ := hwv
      have hbv := HW.out iv
      (first | go_big_op | go_simp)
      go_at_call 49
      refine (Name_at 0 ({ data := #[117, 110, 99, 104, 101, 99, 107, 101, 100] } : ByteArray) _ (.inl ⟨rfl, rfl⟩)).mono ?_
      rintro e w' ⟨rfl, rfl⟩
      exact hK _ _ (Go.Flo.owes_is _ rfl (Below.refl _ _))
    obtain rfl := hv.is
    go_simp
    refine hK _ ?_
    clear hK K hv
    (repeat (first | (refine Go.Flo.fw_calm rfl ?_ (fun K hK => ?_); (first | exact Go.Mix.wanted_none rfl | exact Go.Mix.wanted_tt rfl rfl rfl | exact Go.Mix.wanted_ff rfl rfl rfl); go_big_quiet_op; refine hK _ ?_; clear hK K) | (refine Go.Flo.fw_skip ?_ (fun K hK => ?_); (first | exact Go.Mix.wanted_tf rfl rfl rfl | exact Go.Mix.wanted_ft rfl rfl rfl); go_simp; refine hK _ ?_; clear hK K) | (refine Go.Flo.fw_any rfl ?_ (fun K hK => ?_); (first | exact Go.Mix.wanted_none rfl | exact Go.Mix.wanted_tt rfl rfl rfl | exact Go.Mix.wanted_ff rfl rfl rfl); go_simp; (try (go_ints; try go_simp)); refine hK _ ?_; clear hK K)))
    refine Go.Flo.fw_nil ?_
    intro wz hwwz hfwz huwz
    refine Go.Flo.tw_nil ?_
    obtain ⟨iend, hiend⟩ := hwwz
    have hbwz := HW.out iend
    rw [← hiend] at hbwz
    clear hiend iend huwz
    have HB := Lib.hid (HS.out.be.trans (hbwz.mono HS.out.be.size))
    clear hfwz HJ HW hne k0 k1 k2 k3 k4 k5 a0 a1 a2 a3 a4 a5 hbwz j0 j1 j2 j3 j4 j5 d0 d1 d2 d3 d4 d5
    clear W I
    go_wp2
    go_ret
    exact ⟨rfl, HB.out⟩
  case inr.inl =>
    clear HS
    go_wp2_with fail
    obtain ⟨f, hf⟩ : ∃ f, f = wb.heap.size := ⟨_, rfl⟩
    obtain ⟨wy, hwy⟩ : ∃ wy, wy = ((wb.alloc (.cells #[.int .u8 n0_0, .int .i64 n0_1, .int .i32 n0_2, .int .i32 n0_3, .int .u32 ((m : Nat) : Int), .int .u32 ((n : Nat) : Int)] 93)).alloc (.cells #[.string { data := #[117, 110, 99, 104, 101, 99, 107, 101, 100] }, .string { data := #[119, 105, 116, 104, 105, 110] }, .string { data := #[98, 101, 108, 111, 119] }, .string { data := #[97, 98, 111, 118, 101] }, .string { data := #[117, 110, 101, 120, 112, 101, 99, 116, 101, 100] }] 9)) := ⟨_, rfl⟩
    rw [← hwy, ← hf] at HS5
    rw [← hwy, ← hf]
    clear hwy hf hb2 hb3 g0 g2 g3 a0 a1 a2 a3 a4 a5
    have HS := HS5
    clear HS5
    skip
    have hgl := box_lt HS.out.ba
    have hfl := box_lt HS.out.bb
    have a0 := cell_of_row _ _ 0 _ _ _ HS.out.ba
    have a1 := cell_of_row _ _ 1 _ _ _ HS.out.ba
    have a2 := cell_of_row _ _ 2 _ _ _ HS.out.ba
    have a3 := cell_of_row _ _ 3 _ _ _ HS.out.ba
    have a4 := cell_of_row _ _ 4 _ _ _ HS.out.ba
    have a5 := cell_of_row _ _ 5 _ _ _ HS.out.ba
    have d0 := cell_of_row _ _ 0 _ _ _ HS.out.bb
    have d1 := cell_of_row _ _ 1 _ _ _ HS.out.bb
    have d2 := cell_of_row _ _ 2 _ _ _ HS.out.bb
    have d3 := cell_of_row _ _ 3 _ _ _ HS.out.bb
    have d4 := cell_of_row _ _ 4 _ _ _ HS.out.bb
    have d5 := cell_of_row _ _ 5 _ _ _ HS.out.bb
    obtain ⟨I, W, hne, hWI, hIW⟩ := Go.Mix.family (fun v => Below wy.heap.size wy v) (Below.refl _ _)
    have HJ := Lib.hid hIW
    have HW := Lib.hid hWI
    clear hWI hIW
    refine Go.Flo.wp_region (fun w' => ∃ i, w' = W i) 41 [Go.Flo.Spec.is (.bool t), Go.Flo.Spec.is (.bool t), Go.Flo.Spec.is (.int .u8 v), Go.Flo.Spec.is (.int .i64 v), Go.Flo.Spec.is (.bool false), Go.Flo.Spec.is (.string ({ data := #[119, 105, 116, 104, 105, 110] } : ByteArray))] (by kernel_rfl) (by kernel_rfl) (by decide) (by rintro _ w' ⟨i, rfl⟩ hb; exact HJ.out _ ((HW.out i).trans (hb.mono (HW.out i).size))) (HJ.out _ (Below.refl _ _).drew) ?_
    simp only [Go.Flo.pair, Go.Mix.calm, List.take, List.drop, if_true, Bool.false_eq_true, if_false, Nat.reduceAdd, Nat.reduceSub]
    have k0 : ∀ i, (W i).cell? ⟨g, 0, none⟩ = some (.int .u8 n0_0) := fun i => ((HW.out i).cell (p := ⟨g, 0, none⟩) hgl).trans a0
    have k1 : ∀ i, (W i).cell? ⟨g, 1, none⟩ = some (.int .i64 n0_1) := fun i => ((HW.out i).cell (p := ⟨g, 1, none⟩) hgl).trans a1
    have k2 : ∀ i, (W i).cell? ⟨g, 2, none⟩ = some (.int .i32 n0_2) := fun i => ((HW.out i).cell (p := ⟨g, 2, none⟩) hgl).trans a2
    have k3 : ∀ i, (W i).cell? ⟨g, 3, none⟩ = some (.int .i32 n0_3) := fun i => ((HW.out i).cell (p := ⟨g, 3, none⟩) hgl).trans a3
    have k4 : ∀ i, (W i).cell? ⟨g, 4, none⟩ = some (.int .u32 (m : Int)) := fun i => ((HW.out i).cell (p := ⟨g, 4, none⟩) hgl).trans a4
    have k5 : ∀ i, (W i).cell? ⟨g, 5, none⟩ = some (.int .u32 (n : Int)) := fun i => ((HW.out i).cell (p := ⟨g, 5, none⟩) hgl).trans a5
    have j0 : ∀ i, (W i).cell? ⟨f, 0, none⟩ = some (.int .u8 n0_0) := fun i => ((HW.out i).cell (p := ⟨f, 0, none⟩) hfl).trans d0
    have j1 : ∀ i, (W i).cell? ⟨f, 1, none⟩ = some (.int .i64 n0_1) := fun i => ((HW.out i).cell (p := ⟨f, 1, none⟩) hfl).trans d1
    have j2 : ∀ i, (W i).cell? ⟨f, 2, none⟩ = some (.int .i32 n0_2) := fun i => ((HW.out i).cell (p := ⟨f, 2, none⟩) hfl).trans d2
    have j3 : ∀ i, (W i).cell? ⟨f, 3, none⟩ = some (.int .i32 n0_3) := fun i => ((HW.out i).cell (p := ⟨f, 3, none⟩) hfl).trans d3
    have j4 : ∀ i, (W i).cell? ⟨f, 4, none⟩ = some (.int .u32 (m : Int)) := fun i => ((HW.out i).cell (p := ⟨f, 4, none⟩) hfl).trans d4
    have j5 : ∀ i, (W i).cell? ⟨f, 5, none⟩ = some (.int .u32 (n : Int)) := fun i => ((HW.out i).cell (p := ⟨f, 5, none⟩) hfl).trans d5
    (repeat (first | (refine Go.Flo.fw_calm rfl ?_ (fun K hK => ?_); (first | exact Go.Mix.wanted_none rfl | exact Go.Mix.wanted_tt rfl rfl rfl | exact Go.Mix.wanted_ff rfl rfl rfl); go_big_quiet_op; refine hK _ ?_; clear hK K) | (refine Go.Flo.fw_skip ?_ (fun K hK => ?_); (first | exact Go.Mix.wanted_tf rfl rfl rfl | exact Go.Mix.wanted_ft rfl rfl rfl); go_simp; refine hK _ ?_; clear hK K) | (refine Go.Flo.fw_any rfl ?_ (fun K hK => ?_); (first | exact Go.Mix.wanted_none rfl | exact Go.Mix.wanted_tt rfl rfl rfl | exact Go.Mix.wanted_ff rfl rfl rfl); go_simp; (try (go_ints; try go_simp)); refine hK _ ?_; clear hK K)))
    refine Go.Flo.fw_loud rfl ?_ rfl (by simp) (fun wv hwv hav K hK => ?_) (fun v hv K hK => ?_)
    · (first | exact Go.Mix.wanted_none rfl | exact Go.Mix.wanted_tt rfl rfl rfl | exact Go.Mix.wanted_ff rfl rfl rfl)
    · obtain ⟨iv, rfl⟩ := hwv
      have hbv := HW.out iv
      (first | go_big_op | go_simp)
      go_at_call 44
      refine (Right_at n0_0 n0_1 n0_2 n0_3 m n t _ HV.out.1).mono ?_
      rintro e w' ⟨rfl, hb⟩
      exact hK _ _ (Go.Flo.owes_is _ rfl hb)
    obtain rfl := hv.is
    go_simp
    refine hK _ ?_
    clear hK K hv
    (repeat (first | (refine Go.Flo.fw_calm rfl ?_ (fun K hK => ?_); (first | exact Go.Mix.wanted_none rfl | exact Go.Mix.wanted_tt rfl rfl rfl | exact Go.Mix.wanted_ff rfl rfl rfl); go_big_quiet_op; refine hK _ ?_; clear hK K) | (refine Go.Flo.fw_skip ?_ (fun K hK => ?_); (first | exact Go.Mix.wanted_tf rfl rfl rfl | exact Go.Mix.wanted_ft rfl rfl rfl); go_simp; refine hK _ ?_; clear hK K) | (refine Go.Flo.fw_any rfl ?_ (fun K hK => ?_); (first | exact Go.Mix.wanted_none rfl | exact Go.Mix.wanted_tt rfl rfl rfl | exact Go.Mix.wanted_ff rfl rfl rfl); go_simp; (try (go_ints; try go_simp)); refine hK _ ?_; clear hK K)))
    refine Go.Flo.fw_loud rfl ?_ rfl (by simp) (fun wv hwv hav K hK => ?_) (fun v hv K hK => ?_)
    · (first | exact Go.Mix.wanted_none rfl | exact Go.Mix.wanted_tt rfl rfl rfl | exact Go.Mix.wanted_ff rfl rfl rfl)
    · obtain ⟨iv, rfl⟩ := hwv
      have hbv := HW.out iv
      (first | go_big_op | go_simp)
      go_at_call 45
      refine (rRightD n0_0 n0_1 n0_2 n0_3 m n t _ HV.out.1).mono ?_
      rintro e w' ⟨rfl, hb⟩
      exact hK _ _ (Go.Flo.owes_is _ rfl hb)
    obtain rfl := hv.is
    go_simp
    refine hK _ ?_
    clear hK K hv
    (repeat (first | (refine Go.Flo.fw_calm rfl ?_ (fun K hK => ?_); (first | exact Go.Mix.wanted_none rfl | exact Go.Mix.wanted_tt rfl rfl rfl | exact Go.Mix.wanted_ff rfl rfl rfl); go_big_quiet_op; refine hK _ ?_; clear hK K) | (refine Go.Flo.fw_skip ?_ (fun K hK => ?_); (first | exact Go.Mix.wanted_tf rfl rfl rfl | exact Go.Mix.wanted_ft rfl rfl rfl); go_simp; refine hK _ ?_; clear hK K) | (refine Go.Flo.fw_any rfl ?_ (fun K hK => ?_); (first | exact Go.Mix.wanted_none rfl | exact Go.Mix.wanted_tt rfl rfl rfl | exact Go.Mix.wanted_ff rfl rfl rfl); go_simp; (try (go_ints; try go_simp)); refine hK _ ?_; clear hK K)))
    refine Go.Flo.fw_loud rfl ?_ rfl (by simp) (fun wv hwv hav K hK => ?_) (fun v hv K hK => ?_)
    · (first | exact Go.Mix.wanted_none rfl | exact Go.Mix.wanted_tt rfl rfl rfl | exact Go.Mix.wanted_ff rfl rfl rfl)
    · obtain ⟨iv, rfl⟩ := hwv
      have hbv := HW.out iv
      (first | go_big_op | go_simp)
      go_at_call 46
      with_reducible refine (Look_at n0_0 n0_1 n0_2 n0_3 m n x1 x2 x3 v _ HOK.out HD.out.1.1 HD.out.1.2 HD.out.2.1 HD.out.2.2 HV.out.2).mono ?_
      rintro e w' ⟨rfl, hb⟩
      exact hK _ _ (Go.Flo.owes_is _ rfl hb)
    obtain rfl := hv.is
    go_simp
    refine hK _ ?_
    clear hK K hv
    (repeat (first | (refine Go.Flo.fw_calm rfl ?_ (fun K hK => ?_); (first | exact Go.Mix.wanted_none rfl | exact Go.Mix.wanted_tt rfl rfl rfl | exact Go.Mix.wanted_ff rfl rfl rfl); go_big_quiet_op; refine hK _ ?_; clear hK K) | (refine Go.Flo.fw_skip ?_ (fun K hK => ?_); (first | exact Go.Mix.wanted_tf rfl rfl rfl | exact Go.Mix.wanted_ft rfl rfl rfl); go_simp; refine hK _ ?_; clear hK K) | (refine Go.Flo.fw_any rfl ?_ (fun K hK => ?_); (first | exact Go.Mix.wanted_none rfl | exact Go.Mix.wanted_tt rfl rfl rfl | exact Go.Mix.wanted_ff rfl rfl rfl); go_simp; (try (go_ints; try go_simp)); refine hK _ ?_; clear hK K)))
    refine Go.Flo.fw_loud rfl ?_ rfl (by simp) (fun wv hwv hav K hK => ?_) (fun v hv K hK => ?_)
    · (first | exact Go.Mix.wanted_none rfl | exact Go.Mix.wanted_tt rfl rfl rfl | exact Go.Mix.wanted_ff rfl rfl rfl)
    · obtain ⟨iv, rfl⟩ := hwv
      have hbv := HW.out iv
      (first | go_big_op | go_simp)
      go_at_call 47
      refine (rLook_at n0_0 n0_1 n0_2 n0_3 m n x1 x2 x3 v _ HOK.out HD.out.1.1 HD.out.1.2 HD.out.2.1 HD.out.2.2 HV.out.2).mono ?_
      rintro e w' ⟨rfl, hb⟩
      exact hK _ _ (Go.Flo.owes_is _ rfl hb)
    obtain rfl := hv.is
    go_simp
    refine hK _ ?_
    clear hK K hv
    (repeat (first | (refine Go.Flo.fw_calm rfl ?_ (fun K hK => ?_); (first | exact Go.Mix.wanted_none rfl | exact Go.Mix.wanted_tt rfl rfl rfl | exact Go.Mix.wanted_ff rfl rfl rfl); go_big_quiet_op; refine hK _ ?_; clear hK K) | (refine Go.Flo.fw_skip ?_ (fun K hK => ?_); (first | exact Go.Mix.wanted_tf rfl rfl rfl | exact Go.Mix.wanted_ft rfl rfl rfl); go_simp; refine hK _ ?_; clear hK K) | (refine Go.Flo.fw_any rfl ?_ (fun K hK => ?_); (first | exact Go.Mix.wanted_none rfl | exact Go.Mix.wanted_tt rfl rfl rfl | exact Go.Mix.wanted_ff rfl rfl rfl); go_simp; (try (go_ints; try go_simp)); refine hK _ ?_; clear hK K)))
    refine Go.Flo.fw_loud rfl ?_ rfl (by simp) (fun wv hwv hav K hK => ?_) (fun v hv K hK => ?_)
    · (first | exact Go.Mix.wanted_none rfl | exact Go.Mix.wanted_tt rfl rfl rfl | exact Go.Mix.wanted_ff rfl rfl rfl)
    · obtain ⟨iv, rfl⟩ := hwv
      have hbv := HW.out iv
      (first | go_big_op | go_simp)
      go_at_call 48
      refine (Vio_at 1 false _ rfl).mono ?_
      rintro e w' ⟨rfl, rfl⟩
      exact hK _ _ (Go.Flo.owes_is _ rfl (Below.refl _ _))
    obtain rfl := hv.is
    go_simp
    refine hK _ ?_
    clear hK K hv
    (repeat (first | (refine Go.Flo.fw_calm rfl ?_ (fun K hK => ?_); (first | exact Go.Mix.wanted_none rfl | exact Go.Mix.wanted_tt rfl rfl rfl | exact Go.Mix.wanted_ff rfl rfl rfl); go_big_quiet_op; refine hK _ ?_; clear hK K) | (refine Go.Flo.fw_skip ?_ (fun K hK => ?_); (first | exact Go.Mix.wanted_tf rfl rfl rfl | exact Go.Mix.wanted_ft rfl rfl rfl); go_simp; refine hK _ ?_; clear hK K) | (refine Go.Flo.fw_any rfl ?_ (fun K hK => ?_); (first | exact Go.Mix.wanted_none rfl | exact Go.Mix.wanted_tt rfl rfl rfl | exact Go.Mix.wanted_ff rfl rfl rfl); go_simp; (try (go_ints; try go_simp)); refine hK _ ?_; clear hK K)))
    refine Go.Flo.fw_loud rfl ?_ rfl (by simp) (fun wv hwv hav K hK => ?_) (fun v hv K hK => ?_)
    · (first | exact Go.Mix.wanted_none rfl | exact Go.Mix.wanted_tt rfl rfl rfl | exact Go.Mix.wanted_ff rfl rfl rfl)
    · obtain ⟨iv, rfl⟩ := hwv
      have hbv := HW.out iv
      (first | go_big_op | go_simp)
      go_at_call 49
      refine (Name_at 1 ({ data := #[119, 105, 116, 104, 105, 110] } : ByteArray) _ (.inr (.inl ⟨rfl, rfl⟩))).mono ?_
      rintro e w' ⟨rfl, rfl⟩
      exact hK _ _ (Go.Flo.owes_is _ rfl (Below.refl _ _))
    obtain rfl := hv.is
    go_simp
    refine hK _ ?_
    clear hK K hv
    (repeat (first | (refine Go.Flo.fw_calm rfl ?_ (fun K hK => ?_); (first | exact Go.Mix.wanted_none rfl | exact Go.Mix.wanted_tt rfl rfl rfl | exact Go.Mix.wanted_ff rfl rfl rfl); go_big_quiet_op; refine hK _ ?_; clear hK K) | (refine Go.Flo.fw_skip ?_ (fun K hK => ?_); (first | exact Go.Mix.wanted_tf rfl rfl rfl | exact Go.Mix.wanted_ft rfl rfl rfl); go_simp; refine hK _ ?_; clear hK K) | (refine Go.Flo.fw_any rfl ?_ (fun K hK => ?_); (first | exact Go.Mix.wanted_none rfl | exact Go.Mix.wanted_tt rfl rfl rfl | exact Go.Mix.wanted_ff rfl rfl rfl); go_simp; (try (go_ints; try go_simp)); refine hK _ ?_; clear hK K)))
    refine Go.Flo.fw_nil ?_
    intro wz hwwz hfwz huwz
    refine Go.Flo.tw_nil ?_
    obtain ⟨iend, hiend⟩ := hwwz
    have hbwz := HW.out iend
    rw [← hiend] at hbwz
    clear hiend iend huwz
    have HB := Lib.hid (HS.out.be.trans (hbwz.mono HS.out.be.size))
    clear hfwz HJ HW hne k0 k1 k2 k3 k4 k5 a0 a1 a2 a3 a4 a5 hbwz j0 j1 j2 j3 j4 j5 d0 d1 d2 d3 d4 d5
    clear W I
    go_wp2
    go_ret
    exact ⟨rfl, HB.out⟩
  case inr.inr.inl =>
    clear HS
    go_wp2_with fail
    obtain ⟨f, hf⟩ : ∃ f, f = wb.heap.size := ⟨_, rfl⟩
    obtain ⟨wy, hwy⟩ : ∃ wy, wy = ((wb.alloc (.cells #[.int .u8 n0_0, .int .i64 n0_1, .int .i32 n0_2, .int .i32 n0_3, .int .u32 ((m : Nat) : Int), .int .u32 ((n : Nat) : Int)] 93)).alloc (.cells #[.string { data := #[117, 110, 99, 104, 101, 99, 107, 101, 100] }, .string { data := #[119, 105, 116, 104, 105, 110] }, .string { data := #[98, 101, 108, 111, 119] }, .string { data := #[97, 98, 111, 118, 101] }, .string { data := #[117, 110, 101, 120, 112, 101, 99, 116, 101, 100] }] 9)) := ⟨_, rfl⟩
    rw [← hwy, ← hf] at HS5
    rw [← hwy, ← hf]
    clear hwy hf hb2 hb3 g0 g2 g3 a0 a1 a2 a3 a4 a5
    have HS := HS5
    clear HS5
    skip
    have hgl := box_lt HS.out.ba
    have hfl := box_lt HS.out.bb
    have a0 := cell_of_row _ _ 0 _ _ _ HS.out.ba
    have a1 := cell_of_row _ _ 1 _ _ _ HS.out.ba
    have a2 := cell_of_row _ _ 2 _ _ _ HS.out.ba
    have a3 := cell_of_row _ _ 3 _ _ _ HS.out.ba
    have a4 := cell_of_row _ _ 4 _ _ _ HS.out.ba
    have a5 := cell_of_row _ _ 5 _ _ _ HS.out.ba
    have d0 := cell_of_row _ _ 0 _ _ _ HS.out.bb
    have d1 := cell_of_row _ _ 1 _ _ _ HS.out.bb
    have d2 := cell_of_row _ _ 2 _ _ _ HS.out.bb
    have d3 := cell_of_row _ _ 3 _ _ _ HS.out.bb
    have d4 := cell_of_row _ _ 4 _ _ _ HS.out.bb
    have d5 := cell_of_row _ _ 5 _ _ _ HS.out.bb
    obtain ⟨I, W, hne, hWI, hIW⟩ := Go.Mix.family (fun v => Below wy.heap.size wy v) (Below.refl _ _)
    have HJ := Lib.hid hIW
    have HW := Lib.hid hWI
    clear hWI hIW
    refine Go.Flo.wp_region (fun w' => ∃ i, w' = W i) 41 [Go.Flo.Spec.is (.bool t), Go.Flo.Spec.is (.bool t), Go.Flo.Spec.is (.int .u8 v), Go.Flo.Spec.is (.int .i64 v), Go.Flo.Spec.is (.bool true), Go.Flo.Spec.is (.string ({ data := #[98, 101, 108, 111, 119] } : ByteArray))] (by kernel_rfl) (by kernel_rfl) (by decide) (by rintro _ w' ⟨i, rfl⟩ hb; exact HJ.out _ ((HW.out i).trans (hb.mono (HW.out i).size))) (HJ.out _ (Below.refl _ _).drew) ?_
    simp only [Go.Flo.pair, Go.Mix.calm, List.take, List.drop, if_true, Bool.false_eq_true, if_false, Nat.reduceAdd, Nat.reduceSub]
    have k0 : ∀ i, (W i).cell? ⟨g, 0, none⟩ = some (.int .u8 n0_0) := fun i => ((HW.out i).cell (p := ⟨g, 0, none⟩) hgl).trans a0
    have k1 : ∀ i, (W i).cell? ⟨g, 1, none⟩ = some (.int .i64 n0_1) := fun i => ((HW.out i).cell (p := ⟨g, 1, none⟩) hgl).trans a1
    have k2 : ∀ i, (W i).cell? ⟨g, 2, none⟩ = some (.int .i32 n0_2) := fun i => ((HW.out i).cell (p := ⟨g, 2, none⟩) hgl).trans a2
    have k3 : ∀ i, (W i).cell? ⟨g, 3, none⟩ = some (.int .i32 n0_3) := fun i => ((HW.out i).cell (p := ⟨g, 3, none⟩) hgl).trans a3
    have k4 : ∀ i, (W i).cell? ⟨g, 4, none⟩ = some (.int .u32 (m : Int)) := fun i => ((HW.out i).cell (p := ⟨g, 4, none⟩) hgl).trans a4
    have k5 : ∀ i, (W i).cell? ⟨g, 5, none⟩ = some (.int .u32 (n : Int)) := fun i => ((HW.out i).cell (p := ⟨g, 5, none⟩) hgl).trans a5
    have j0 : ∀ i, (W i).cell? ⟨f, 0, none⟩ = some (.int .u8 n0_0) := fun i => ((HW.out i).cell (p := ⟨f, 0, none⟩) hfl).trans d0
    have j1 : ∀ i, (W i).cell? ⟨f, 1, none⟩ = some (.int .i64 n0_1) := fun i => ((HW.out i).cell (p := ⟨f, 1, none⟩) hfl).trans d1
    have j2 : ∀ i, (W i).cell? ⟨f, 2, none⟩ = some (.int .i32 n0_2) := fun i => ((HW.out i).cell (p := ⟨f, 2, none⟩) hfl).trans d2
    have j3 : ∀ i, (W i).cell? ⟨f, 3, none⟩ = some (.int .i32 n0_3) := fun i => ((HW.out i).cell (p := ⟨f, 3, none⟩) hfl).trans d3
    have j4 : ∀ i, (W i).cell? ⟨f, 4, none⟩ = some (.int .u32 (m : Int)) := fun i => ((HW.out i).cell (p := ⟨f, 4, none⟩) hfl).trans d4
    have j5 : ∀ i, (W i).cell? ⟨f, 5, none⟩ = some (.int .u32 (n : Int)) := fun i => ((HW.out i).cell (p := ⟨f, 5, none⟩) hfl).trans d5
    (repeat (first | (refine Go.Flo.fw_calm rfl ?_ (fun K hK => ?_); (first | exact Go.Mix.wanted_none rfl | exact Go.Mix.wanted_tt rfl rfl rfl | exact Go.Mix.wanted_ff rfl rfl rfl); go_big_quiet_op; refine hK _ ?_; clear hK K) | (refine Go.Flo.fw_skip ?_ (fun K hK => ?_); (first | exact Go.Mix.wanted_tf rfl rfl rfl | exact Go.Mix.wanted_ft rfl rfl rfl); go_simp; refine hK _ ?_; clear hK K) | (refine Go.Flo.fw_any rfl ?_ (fun K hK => ?_); (first | exact Go.Mix.wanted_none rfl | exact Go.Mix.wanted_tt rfl rfl rfl | exact Go.Mix.wanted_ff rfl rfl rfl); go_simp; (try (go_ints; try go_simp)); refine hK _ ?_; clear hK K)))
    refine Go.Flo.fw_loud rfl ?_ rfl (by simp) (fun wv hwv hav K hK => ?_) (fun v hv K hK => ?_)
    · (first | exact Go.Mix.wanted_none rfl | exact Go.Mix.wanted_tt rfl rfl rfl | exact Go.Mix.wanted_ff rfl rfl rfl)
    · obtain ⟨iv, rfl⟩ := hwv
      have hbv := HW.out iv
      (first | go_big_op | go_simp)
      go_at_call 44
      refine (Right_at n0_0 n0_1 n0_2 n0_3 m n t _ HV.out.1).mono ?_
      rintro e w' ⟨rfl, hb⟩
      exact hK _ _ (Go.Flo.owes_is _ rfl hb)
    obtain rfl := hv.is
    go_simp
    refine hK _ ?_
    clear hK K hv
    (repeat (first | (refine Go.Flo.fw_calm rfl ?_ (fun K hK => ?_); (first | exact Go.Mix.wanted_none rfl | exact Go.Mix.wanted_tt rfl rfl rfl | exact Go.Mix.wanted_ff rfl rfl rfl); go_big_quiet_op; refine hK _ ?_; clear hK K) | (refine Go.Flo.fw_skip ?_ (fun K hK => ?_); (first | exact Go.Mix.wanted_tf rfl rfl rfl | exact Go.Mix.wanted_ft rfl rfl rfl); go_simp; refine hK _ ?_; clear hK K) | (refine Go.Flo.fw_any rfl ?_ (fun K hK => ?_); (first | exact Go.Mix.wanted_none rfl | exact Go.Mix.wanted_tt rfl rfl rfl | exact Go.Mix.wanted_ff rfl rfl rfl); go_simp; (try (go_ints; try go_simp)); refine hK _ ?_; clear hK K)))
    refine Go.Flo.fw_loud rfl ?_ rfl (by simp) (fun wv hwv hav K hK => ?_) (fun v hv K hK => ?_)
    · (first | exact Go.Mix.wanted_none rfl | exact Go.Mix.wanted_tt rfl rfl rfl | exact Go.Mix.wanted_ff rfl rfl rfl)
    · obtain ⟨iv, rfl⟩ := hwv
      have hbv := HW.out iv
      (first | go_big_op | go_simp)
      go_at_call 45
      refine (rRightD n0_0 n0_1 n0_2 n0_3 m n t _ HV.out.1).mono ?_
      rintro e w' ⟨rfl, hb⟩
      exact hK _ _ (Go.Flo.owes_is _ rfl hb)
    obtain rfl := hv.is
    go_simp
    refine hK _ ?_
    clear hK K hv
    (repeat (first | (refine Go.Flo.fw_calm rfl ?_ (fun K hK => ?_); (first | exact Go.Mix.wanted_none rfl | exact Go.Mix.wanted_tt rfl rfl rfl | exact Go.Mix.wanted_ff rfl rfl rfl); go_big_quiet_op; refine hK _ ?_; clear hK K) | (refine Go.Flo.fw_skip ?_ (fun K hK => ?_); (first | exact Go.Mix.wanted_tf rfl rfl rfl | exact Go.Mix.wanted_ft rfl rfl rfl); go_simp; refine hK _ ?_; clear hK K) | (refine Go.Flo.fw_any rfl ?_ (fun K hK => ?_); (first | exact Go.Mix.wanted_none rfl | exact Go.Mix.wanted_tt rfl rfl rfl | exact Go.Mix.wanted_ff rfl rfl rfl); go_simp; (try (go_ints; try go_simp)); refine hK _ ?_; clear hK K)))
    refine Go.Flo.fw_loud rfl ?_ rfl (by simp) (fun wv hwv hav K hK => ?_) (fun v hv K hK => ?_)
    · (first | exact Go.Mix.wanted_none rfl | exact Go.Mix.wanted_tt rfl rfl rfl | exact Go.Mix.wanted_ff rfl rfl rfl)
    · obtain ⟨iv, rfl⟩ := hwv
      have hbv := HW.out iv
      (first | go_big_op | go_simp)
      go_at_call 46
      with_reducible refine (Look_at n0_0 n0_1 n0_2 n0_3 m n x1 x2 x3 v _ HOK.out HD.out.1.1 HD.out.1.2 HD.out.2.1 HD.out.2.2 HV.out.2).mono ?_
      rintro e w' ⟨rfl, hb⟩
      exact hK _ _ (Go.Flo.owes_is _ rfl hb)
    obtain rfl := hv.is
    go_simp
    refine hK _ ?_
    clear hK K hv
    (repeat (first | (refine Go.Flo.fw_calm rfl ?_ (fun K hK => ?_); (first | exact Go.Mix.wanted_none rfl | exact Go.Mix.wanted_tt rfl rfl rfl | exact Go.Mix.wanted_ff rfl rfl rfl); go_big_quiet_op; refine hK _ ?_; clear hK K) | (refine Go.Flo.fw_skip ?_ (fun K hK => ?_); (first | exact Go.Mix.wanted_tf rfl rfl rfl | exact Go.Mix.wanted_ft rfl rfl rfl); go_simp; refine hK _ ?_; clear hK K) | (refine Go.Flo.fw_any rfl ?_ (fun K hK => ?_); (first | exact Go.Mix.wanted_none rfl | exact Go.Mix.wanted_tt rfl rfl rfl | exact Go.Mix.wanted_ff rfl rfl rfl); go_simp; (try (go_ints; try go_simp)); refine hK _ ?_; clear hK K)))
    refine Go.Flo.fw_loud rfl ?_ rfl (by simp) (fun wv hwv hav K hK => ?_) (fun v hv K hK => ?_)
    · (first | exact Go.Mix.wanted_none rfl | exact Go.Mix.wanted_tt rfl rfl rfl | exact Go.Mix.wanted_ff rfl rfl rfl)
    · obtain ⟨iv, rfl⟩ := hwv
      have hbv := HW.out iv
      (first | go_big_op | go_simp)
      go_at_call 47
      refine (rLook_at n0_0 n0_1 n0_2 n0_3 m n x1 x2 x3 v _ HOK.out HD.out.1.1 HD.out.1.2 HD.out.2.1 HD.out.2.2 HV.out.2).mono ?_
      rintro e w' ⟨rfl, hb⟩
      exact hK _ _ (Go.Flo.owes_is _ rfl hb)
    obtain rfl := hv.is
    go_simp
    refine hK _ ?_
    clear hK K hv
    (repeat (first | (refine Go.Flo.fw_calm rfl ?_ (fun K hK => ?_); (first | exact Go.Mix.wanted_none rfl | exact Go.Mix.wanted_tt rfl rfl rfl | exact Go.Mix.wanted_ff rfl rfl rfl); go_big_quiet_op; refine hK _ ?_; clear hK K) | (refine Go.Flo.fw_skip ?_ (fun K hK => ?_); (first | exact Go.Mix.wanted_tf rfl rfl rfl | exact Go.Mix.wanted_ft rfl rfl rfl); go_simp; refine hK _ ?_; clear hK K) | (refine Go.Flo.fw_any rfl ?_ (fun K hK => ?_); (first | exact Go.Mix.wanted_none rfl | exact Go.Mix.wanted_tt rfl rfl rfl | exact Go.Mix.wanted_ff rfl rfl rfl); go_simp; (try (go_ints; try go_simp)); refine hK _ ?_; clear hK K)))
    refine Go.Flo.fw_loud rfl ?_ rfl (by simp) (fun wv hwv hav K hK => ?_) (fun v hv K hK => ?_)
    · (first | exact Go.Mix.wanted_none rfl | exact Go.Mix.wanted_tt rfl rfl rfl | exact Go.Mix.wanted_ff rfl rfl rfl)
    · obtain ⟨iv, rfl⟩ := hwv
      have hbv := HW.out iv
      (first | go_big_op | go_simp)
      go_at_call 48
      refine (Vio_at 2 true _ rfl).mono ?_
      rintro e w' ⟨rfl, rfl⟩
      exact hK _ _ (Go.Flo.owes_is _ rfl (Below.refl _ _))
    obtain rfl := hv.is
    go_simp
    refine hK _ ?_
    clear hK K hv
    (repeat (first | (refine Go.Flo.fw_calm rfl ?_ (fun K hK => ?_); (first | exact Go.Mix.wanted_none rfl | exact Go.Mix.wanted_tt rfl rfl rfl | exact Go.Mix.wanted_ff rfl rfl rfl); go_big_quiet_op; refine hK _ ?_; clear hK K) | (refine Go.Flo.fw_skip ?_ (fun K hK => ?_); (first | exact Go.Mix.wanted_tf rfl rfl rfl | exact Go.Mix.wanted_ft rfl rfl rfl); go_simp; refine hK _ ?_; clear hK K) | (refine Go.Flo.fw_any rfl ?_ (fun K hK => ?_); (first | exact Go.Mix.wanted_none rfl | exact Go.Mix.wanted_tt rfl rfl rfl | exact Go.Mix.wanted_ff rfl rfl rfl); go_simp; (try (go_ints; try go_simp)); refine hK _ ?_; clear hK K)))
    refine Go.Flo.fw_loud rfl ?_ rfl (by simp) (fun wv hwv hav K hK => ?_) (fun v hv K hK => ?_)
    · (first | exact Go.Mix.wanted_none rfl | exact Go.Mix.wanted_tt rfl rfl rfl | exact Go.Mix.wanted_ff rfl rfl rfl)
    · obtain ⟨iv, rfl⟩ := hwv
      have hbv := HW.out iv
      (first | go_big_op | go_simp)
      go_at_call 49
      refine (Name_at 2 ({ data := #[98, 101, 108, 111, 119] } : ByteArray) _ (.inr (.inr (.inl ⟨rfl, rfl⟩)))).mono ?_
      rintro e w' ⟨rfl, rfl⟩
      exact hK _ _ (Go.Flo.owes_is _ rfl (Below.refl _ _))
    obtain rfl := hv.is
    go_simp
    refine hK _ ?_
    clear hK K hv
    (repeat (first | (refine Go.Flo.fw_calm rfl ?_ (fun K hK => ?_); (first | exact Go.Mix.wanted_none rfl | exact Go.Mix.wanted_tt rfl rfl rfl | exact Go.Mix.wanted_ff rfl rfl rfl); go_big_quiet_op; refine hK _ ?_; clear hK K) | (refine Go.Flo.fw_skip ?_ (fun K hK => ?_); (first | exact Go.Mix.wanted_tf rfl rfl rfl | exact Go.Mix.wanted_ft rfl rfl rfl); go_simp; refine hK _ ?_; clear hK K) | (refine Go.Flo.fw_any rfl ?_ (fun K hK => ?_); (first | exact Go.Mix.wanted_none rfl | exact Go.Mix.wanted_tt rfl rfl rfl | exact Go.Mix.wanted_ff rfl rfl rfl); go_simp; (try (go_ints; try go_simp)); refine hK _ ?_; clear hK K)))
    refine Go.Flo.fw_nil ?_
    intro wz hwwz hfwz huwz
    refine Go.Flo.tw_nil ?_
    obtain ⟨iend, hiend⟩ := hwwz
    have hbwz := HW.out iend
    rw [← hiend] at hbwz
    clear hiend iend huwz
    have HB := Lib.hid (HS.out.be.trans (hbwz.mono HS.out.be.size))
    clear hfwz HJ HW hne k0 k1 k2 k3 k4 k5 a0 a1 a2 a3 a4 a5 hbwz j0 j1 j2 j3 j4 j5 d0 d1 d2 d3 d4 d5
    clear W I
    go_wp2
    go_ret
    exact ⟨rfl, HB.out⟩
  case inr.inr.inr.inl =>
    clear HS
    go_wp2_with fail
    obtain ⟨f, hf⟩ : ∃ f, f = wb.heap.size := ⟨_, rfl⟩
    obtain ⟨wy, hwy⟩ : ∃ wy, wy = ((wb.alloc (.cells #[.int .u8 n0_0, .int .i64 n0_1, .int .i32 n0_2, .int .i32 n0_3, .int .u32 ((m : Nat) : Int), .int .u32 ((n : Nat) : Int)] 93)).alloc (.cells #[.string { data := #[117, 110, 99, 104, 101, 99, 107, 101, 100] }, .string { data := #[119, 105, 116, 104, 105, 110] }, .string { data := #[98, 101, 108, 111, 119] }, .string { data := #[97, 98, 111, 118, 101] }, .string { data := #[117, 110, 101, 120, 112, 101, 99, 116, 101, 100] }] 9)) := ⟨_, rfl⟩
    rw [← hwy, ← hf] at HS5
    rw [← hwy, ← hf]
    clear hwy hf hb2 hb3 g0 g2 g3 a0 a1 a2 a3 a4 a5
    have HS := HS5
    clear HS5
    skip
    have hgl := box_lt HS.out.ba
    have hfl := box_lt HS.out.bb
    have a0 := cell_of_row _ _ 0 _ _ _ HS.out.ba
    have a1 := cell_of_row _ _ 1 _ _ _ HS.out.ba
    have a2 := cell_of_row _ _ 2 _ _ _ HS.out.ba
    have a3 := cell_of_row _ _ 3 _ _ _ HS.out.ba
    have a4 := cell_of_row _ _ 4 _ _ _ HS.out.ba
    have a5 := cell_of_row _ _ 5 _ _ _ HS.out.ba
    have d0 := cell_of_row _ _ 0 _ _ _ HS.out.bb
    have d1 := cell_of_row _ _ 1 _ _ _ HS.out.bb
    have d2 := cell_of_row _ _ 2 _ _ _ HS.out.bb
    have d3 := cell_of_row _ _ 3 _ _ _ HS.out.bb
    have d4 := cell_of_row _ _ 4 _ _ _ HS.out.bb
    have d5 := cell_of_row _ _ 5 _ _ _ HS.out.bb
    obtain ⟨I, W, hne, hWI, hIW⟩ := Go.Mix.family (fun v => Below wy.heap.size wy v) (Below.refl _ _)
    have HJ := Lib.hid hIW
    have HW := Lib.hid hWI
    clear hWI hIW
    refine Go.Flo.wp_region (fun w' => ∃ i, w' = W i) 41 [Go.Flo.Spec.is (.bool t), Go.Flo.Spec.is (.bool t), Go.Flo.Spec.is (.int .u8 v), Go.Flo.Spec.is (.int .i64 v), Go.Flo.Spec.is (.bool true), Go.Flo.Spec.is (.string ({ data := #[97, 98, 111, 118, 101] } : ByteArray))] (by kernel_rfl) (by kernel_rfl) (by decide) (by rintro _ w' ⟨i, rfl⟩ hb; exact HJ.out _ ((HW.out i).trans (hb.mono (HW.out i).size))) (HJ.out _ (Below.refl _ _).drew) ?_
    simp only [Go.Flo.pair, Go.Mix.calm, List.take, List.drop, if_true, Bool.false_eq_true, if_false, Nat.reduceAdd, Nat.reduceSub]
    have k0 : ∀ i, (W i).cell? ⟨g, 0, none⟩ = some (.int .u8 n0_0) := fun i => ((HW.out i).cell (p := ⟨g, 0, none⟩) hgl).trans a0
    have k1 : ∀ i, (W i).cell? ⟨g, 1, none⟩ = some (.int .i64 n0_1) := fun i => ((HW.out i).cell (p := ⟨g, 1, none⟩) hgl).trans a1
    have k2 : ∀ i, (W i).cell? ⟨g, 2, none⟩ = some (.int .i32 n0_2) := fun i => ((HW.out i).cell (p := ⟨g, 2, none⟩) hgl).trans a2
    have k3 : ∀ i, (W i).cell? ⟨g, 3, none⟩ = some (.int .i32 n0_3) := fun i => ((HW.out i).cell (p := ⟨g, 3, none⟩) hgl).trans a3
    have k4 : ∀ i, (W i).cell? ⟨g, 4, none⟩ = some (.int .u32 (m : Int)) := fun i => ((HW.out i).cell (p := ⟨g, 4, none⟩) hgl).trans a4
    have k5 : ∀ i, (W i).cell? ⟨g, 5, none⟩ = some (.int .u32 (n : Int)) := fun i => ((HW.out i).cell (p := ⟨g, 5, none⟩) hgl).trans a5
    have j0 : ∀ i, (W i).cell? ⟨f, 0, none⟩ = some (.int .u8 n0_0) := fun i => ((HW.out i).cell (p := ⟨f, 0, none⟩) hfl).trans d0
    have j1 : ∀ i, (W i).cell? ⟨f, 1, none⟩ = some (.int .i64 n0_1) := fun i => ((HW.out i).cell (p := ⟨f, 1, none⟩) hfl).trans d1
    have j2 : ∀ i, (W i).cell? ⟨f, 2, none⟩ = some (.int .i32 n0_2) := fun i => ((HW.out i).cell (p := ⟨f, 2, none⟩) hfl).trans d2
    have j3 : ∀ i, (W i).cell? ⟨f, 3, none⟩ = some (.int .i32 n0_3) := fun i => ((HW.out i).cell (p := ⟨f, 3, none⟩) hfl).trans d3
    have j4 : ∀ i, (W i).cell? ⟨f, 4, none⟩ = some (.int .u32 (m : Int)) := fun i => ((HW.out i).cell (p := ⟨f, 4, none⟩) hfl).trans d4
    have j5 : ∀ i, (W i).cell? ⟨f, 5, none⟩ = some (.int .u32 (n : Int)) := fun i => ((HW.out i).cell (p := ⟨f, 5, none⟩) hfl).trans d5
    (repeat (first | (refine Go.Flo.fw_calm rfl ?_ (fun K hK => ?_); (first | exact Go.Mix.wanted_none rfl | exact Go.Mix.wanted_tt rfl rfl rfl | exact Go.Mix.wanted_ff rfl rfl rfl); go_big_quiet_op; refine hK _ ?_; clear hK K) | (refine Go.Flo.fw_skip ?_ (fun K hK => ?_); (first | exact Go.Mix.wanted_tf rfl rfl rfl | exact Go.Mix.wanted_ft rfl rfl rfl); go_simp; refine hK _ ?_; clear hK K) | (refine Go.Flo.fw_any rfl ?_ (fun K hK => ?_); (first | exact Go.Mix.wanted_none rfl | exact Go.Mix.wanted_tt rfl rfl rfl | exact Go.Mix.wanted_ff rfl rfl rfl); go_simp; (try (go_ints; try go_simp)); refine hK _ ?_; clear hK K)))
    refine Go.Flo.fw_loud rfl ?_ rfl (by simp) (fun wv hwv hav K hK => ?_) (fun v hv K hK => ?_)
    · (first | exact Go.Mix.wanted_none rfl | exact Go.Mix.wanted_tt rfl rfl rfl | exact Go.Mix.wanted_ff rfl rfl rfl)
    · obtain ⟨iv, rfl⟩ := hwv
      have hbv := HW.out iv
      (first | go_big_op | go_simp)
      go_at_call 44
      refine (Right_at n0_0 n0_1 n0_2 n0_3 m n t _ HV.out.1).mono ?_
      rintro e w' ⟨rfl, hb⟩
      exact hK _ _ (Go.Flo.owes_is _ rfl hb)
    obtain rfl := hv.is
    go_simp
    refine hK _ ?_
    clear hK K hv
    (repeat (first | (refine Go.Flo.fw_calm rfl ?_ (fun K hK => ?_); (first | exact Go.Mix.wanted_none rfl | exact Go.Mix.wanted_tt rfl rfl rfl | exact Go.Mix.wanted_ff rfl rfl rfl); go_big_quiet_op; refine hK _ ?_; clear hK K) | (refine Go.Flo.fw_skip ?_ (fun K hK => ?_); (first | exact Go.Mix.wanted_tf rfl rfl rfl | exact Go.Mix.wanted_ft rfl rfl rfl); go_simp; refine hK _ ?_; clear hK K) | (refine Go.Flo.fw_any rfl ?_ (fun K hK => ?_); (first | exact Go.Mix.wanted_none rfl | exact Go.Mix.wanted_tt rfl rfl rfl | exact Go.Mix.wanted_ff rfl rfl rfl); go_simp; (try (go_ints; try go_simp)); refine hK _ ?_; clear hK K)))
    refine Go.Flo.fw_loud rfl ?_ rfl (by simp) (fun wv hwv hav K hK => ?_) (fun v hv K hK => ?_)
    · (first | exact Go.Mix.wanted_none rfl | exact Go.Mix.wanted_tt rfl rfl rfl | exact Go.Mix.wanted_ff rfl rfl rfl)
    · obtain ⟨iv, rfl⟩ := hwv
      have hbv := HW.out iv
      (first | go_big_op | go_simp)
      go_at_call 45
      refine (rRightD n0_0 n0_1 n0_2 n0_3 m n t _ HV.out.1).mono ?_
      rintro e w' ⟨rfl, hb⟩
      exact hK _ _ (Go.Flo.owes_is _ rfl hb)
    obtain rfl := hv.is
    go_simp
    refine hK _ ?_
    clear hK K hv
    (repeat (first | (refine Go.Flo.fw_calm rfl ?_ (fun K hK => ?_); (first | exact Go.Mix.wanted_none rfl | exact Go.Mix.wanted_tt rfl rfl rfl | exact Go.Mix.wanted_ff rfl rfl rfl); go_big_quiet_op; refine hK _ ?_; clear hK K) | (refine Go.Flo.fw_skip ?_ (fun K hK => ?_); (first | exact Go.Mix.wanted_tf rfl rfl rfl | exact Go.Mix.wanted_ft rfl rfl rfl); go_simp; refine hK _ ?_; clear hK K) | (refine Go.Flo.fw_any rfl ?_ (fun K hK => ?_); (first | exact Go.Mix.wanted_none rfl | exact Go.Mix.wanted_tt rfl rfl rfl | exact Go.Mix.wanted_ff rfl rfl rfl); go_simp; (try (go_ints; try go_simp)); refine hK _ ?_; clear hK K)))
    refine Go.Flo.fw_loud rfl ?_ rfl (by simp) (fun wv hwv hav K hK => ?_) (fun v hv K hK => ?_)
    · (first | exact Go.Mix.wanted_none rfl | exact Go.Mix.wanted_tt rfl rfl rfl | exact Go.Mix.wanted_ff rfl rfl rfl)
    · obtain ⟨iv, rfl⟩ := hwv
      have hbv := HW.out iv
      (first | go_big_op | go_simp)
      go_at_call 46
      with_reducible refine (Look_at n0_0 n0_1 n0_2 n0_3 m n x1 x2 x3 v _ HOK.out HD.out.1.1 HD.out.1.2 HD.out.2.1 HD.out.2.2 HV.out.2).mono ?_
      rintro e w' ⟨rfl, hb⟩
      exact hK _ _ (Go.Flo.owes_is _ rfl hb)
    obtain rfl := hv.is
    go_simp
    refine hK _ ?_
    clear hK K hv
    (repeat (first | (refine Go.Flo.fw_calm rfl ?_ (fun K hK => ?_); (first | exact Go.Mix.wanted_none rfl | exact Go.Mix.wanted_tt rfl rfl rfl | exact Go.Mix.wanted_ff rfl rfl rfl); go_big_quiet_op; refine hK _ ?_; clear hK K) | (refine Go.Flo.fw_skip ?_ (fun K hK => ?_); (first | exact Go.Mix.wanted_tf rfl rfl rfl | exact Go.Mix.wanted_ft rfl rfl rfl); go_simp; refine hK _ ?_; clear hK K) | (refine Go.Flo.fw_any rfl ?_ (fun K hK => ?_); (first | exact Go.Mix.wanted_none rfl | exact Go.Mix.wanted_tt rfl rfl rfl | exact Go.Mix.wanted_ff rfl rfl rfl); go_simp; (try (go_ints; try go_simp)); refine hK _ ?_; clear hK K)))
    refine Go.Flo.fw_loud rfl ?_ rfl (by simp) (fun wv hwv hav K hK => ?_) (fun v hv K hK => ?_)
    · (first | exact Go.Mix.wanted_none rfl | exact Go.Mix.wanted_tt rfl rfl rfl | exact Go.Mix.wanted_ff rfl rfl rfl)
    · obtain ⟨iv, rfl⟩ := hwv
      have hbv := HW.out iv
      (first | go_big_op | go_simp)
      go_at_call 47
      refine (rLook_at n0_0 n0_1 n0_2 n0_3 m n x1 x2 x3 v _ HOK.out HD.out.1.1 HD.out.1.2 HD.out.2.1 HD.out.2.2 HV.out.2).mono ?_
      rintro e w' ⟨rfl, hb⟩
      exact hK _ _ (Go.Flo.owes_is _ rfl hb)
    obtain rfl := hv.is
    go_simp
    refine hK _ ?_
    clear hK K hv
    (repeat (first | (refine Go.Flo.fw_calm rfl ?_ (fun K hK => ?_); (first | exact Go.Mix.wanted_none rfl | exact Go.Mix.wanted_tt rfl rfl rfl | exact Go.Mix.wanted_ff rfl rfl rfl); go_big_quiet_op; refine hK _ ?_; clear hK K) | (refine Go.Flo.fw_skip ?_ (fun K hK => ?_); (first | exact Go.Mix.wanted_tf rfl rfl rfl | exact Go.Mix.wanted_ft rfl rfl rfl); go_simp; refine hK _ ?_; clear hK K) | (refine Go.Flo.fw_any rfl ?_ (fun K hK => ?_); (first | exact Go.Mix.wanted_none rfl | exact Go.Mix.wanted_tt rfl rfl rfl | exact Go.Mix.wanted_ff rfl rfl rfl); go_simp; (try (go_ints; try go_simp)); refine hK _ ?_; clear hK K)))
    refine Go.Flo.fw_loud rfl ?_ rfl (by simp) (fun wv hwv hav K hK => ?_) (fun v hv K hK => ?_)
    · (first | exact Go.Mix.wanted_none rfl | exact Go.Mix.wanted_tt rfl rfl rfl | exact Go.Mix.wanted_ff rfl rfl rfl)
    · obtain ⟨iv, rfl⟩ := hwv
      have hbv := HW.out iv
      (first | go_big_op | go_simp)
      go_at_call 48
      refine (Vio_at 3 true _ rfl).mono ?_
      rintro e w' ⟨rfl, rfl⟩
      exact hK _ _ (Go.Flo.owes_is _ rfl (Below.refl _ _))
    obtain rfl := hv.is
    go_simp
    refine hK _ ?_
    clear hK K hv
    (repeat (first | (refine Go.Flo.fw_calm rfl ?_ (fun K hK => ?_); (first | exact Go.Mix.wanted_none rfl | exact Go.Mix.wanted_tt rfl rfl rfl | exact Go.Mix.wanted_ff rfl rfl rfl); go_big_quiet_op; refine hK _ ?_; clear hK K) | (refine Go.Flo.fw_skip ?_ (fun K hK => ?_); (first | exact Go.Mix.wanted_tf rfl rfl rfl | exact Go.Mix.wanted_ft rfl rfl rfl); go_simp; refine hK _ ?_; clear hK K) | (refine Go.Flo.fw_any rfl ?_ (fun K hK => ?_); (first | exact Go.Mix.wanted_none rfl | exact Go.Mix.wanted_tt rfl rfl rfl | exact Go.Mix.wanted_ff rfl rfl rfl); go_simp; (try (go_ints; try go_simp)); refine hK _ ?_; clear hK K)))
    refine Go.Flo.fw_loud rfl ?_ rfl (by simp) (fun wv hwv hav K hK => ?_) (fun v hv K hK => ?_)
    · (first | exact Go.Mix.wanted_none rfl | exact Go.Mix.wanted_tt rfl rfl rfl | exact Go.Mix.wanted_ff rfl rfl rfl)
    · obtain ⟨iv, rfl⟩ := hwv
      have hbv := HW.out iv
      (first | go_big_op | go_simp)
      go_at_call 49
      refine (Name_at 3 ({ data := #[97, 98, 111, 118, 101] } : ByteArray) _ (.inr (.inr (.inr (.inl ⟨rfl, rfl⟩))))).mono ?_
      rintro e w' ⟨rfl, rfl⟩
      exact hK _ _ (Go.Flo.owes_is _ rfl (Below.refl _ _))
    obtain rfl := hv.is
    go_simp
    refine hK _ ?_
    clear hK K hv
    (repeat (first | (refine Go.Flo.fw_calm rfl ?_ (fun K hK => ?_); (first | exact Go.Mix.wanted_none rfl | exact Go.Mix.wanted_tt rfl rfl rfl | exact Go.Mix.wanted_ff rfl rfl rfl); go_big_quiet_op; refine hK _ ?_; clear hK K) | (refine Go.Flo.fw_skip ?_ (fun K hK => ?_); (first | exact Go.Mix.wanted_tf rfl rfl rfl | exact Go.Mix.wanted_ft rfl rfl rfl); go_simp; refine hK _ ?_; clear hK K) | (refine Go.Flo.fw_any rfl ?_ (fun K hK => ?_); (first | exact Go.Mix.wanted_none rfl | exact Go.Mix.wanted_tt rfl rfl rfl | exact Go.Mix.wanted_ff rfl rfl rfl); go_simp; (try (go_ints; try go_simp)); refine hK _ ?_; clear hK K)))
    refine Go.Flo.fw_nil ?_
    intro wz hwwz hfwz huwz
    refine Go.Flo.tw_nil ?_
    obtain ⟨iend, hiend⟩ := hwwz
    have hbwz := HW.out iend
    rw [← hiend] at hbwz
    clear hiend iend huwz
    have HB := Lib.hid (HS.out.be.trans (hbwz.mono HS.out.be.size))
    clear hfwz HJ HW hne k0 k1 k2 k3 k4 k5 a0 a1 a2 a3 a4 a5 hbwz j0 j1 j2 j3 j4 j5 d0 d1 d2 d3 d4 d5
    clear W I
    go_wp2
    go_ret
    exact ⟨rfl, HB.out⟩
  case inr.inr.inr.inr.inl =>
    clear HS
    go_wp2_with fail
    obtain ⟨f, hf⟩ : ∃ f, f = wb.heap.size := ⟨_, rfl⟩
    obtain ⟨wy, hwy⟩ : ∃ wy, wy = ((wb.alloc (.cells #[.int .u8 n0_0, .int .i64 n0_1, .int .i32 n0_2, .int .i32 n0_3, .int .u32 ((m : Nat) : Int), .int .u32 ((n : Nat) : Int)] 93)).alloc (.cells #[.string { data := #[117, 110, 99, 104, 101, 99, 107, 101, 100] }, .string { data := #[119, 105, 116, 104, 105, 110] }, .string { data := #[98, 101, 108, 111, 119] }, .string { data := #[97, 98, 111, 118, 101] }, .string { data := #[117, 110, 101, 120, 112, 101, 99, 116, 101, 100] }] 9)) := ⟨_, rfl⟩
    rw [← hwy, ← hf] at HS5
    rw [← hwy, ← hf]
    clear hwy hf hb2 hb3 g0 g2 g3 a0 a1 a2 a3 a4 a5
    have HS := HS5
    clear HS5
    skip
    have hgl := box_lt HS.out.ba
    have hfl := box_lt HS.out.bb
    have a0 := cell_of_row _ _ 0 _ _ _ HS.out.ba
    have a1 := cell_of_row _ _ 1 _ _ _ HS.out.ba
    have a2 := cell_of_row _ _ 2 _ _ _ HS.out.ba
    have a3 := cell_of_row _ _ 3 _ _ _ HS.out.ba
    have a4 := cell_of_row _ _ 4 _ _ _ HS.out.ba
    have a5 := cell_of_row _ _ 5 _ _ _ HS.out.ba
    have d0 := cell_of_row _ _ 0 _ _ _ HS.out.bb
    have d1 := cell_of_row _ _ 1 _ _ _ HS.out.bb
    have d2 := cell_of_row _ _ 2 _ _ _ HS.out.bb
    have d3 := cell_of_row _ _ 3 _ _ _ HS.out.bb
    have d4 := cell_of_row _ _ 4 _ _ _ HS.out.bb
    have d5 := cell_of_row _ _ 5 _ _ _ HS.out.bb
    obtain ⟨I, W, hne, hWI, hIW⟩ := Go.Mix.family (fun v => Below wy.heap.size wy v) (Below.refl _ _)
    have HJ := Lib.hid hIW
    have HW := Lib.hid hWI
    clear hWI hIW
    refine Go.Flo.wp_region (fun w' => ∃ i, w' = W i) 41 [Go.Flo.Spec.is (.bool t), Go.Flo.Spec.is (.bool t), Go.Flo.Spec.is (.int .u8 v), Go.Flo.Spec.is (.int .i64 v), Go.Flo.Spec.is (.bool true), Go.Flo.Spec.is (.string ({ data := #[117, 110, 101, 120, 112, 101, 99, 116, 101, 100] } : ByteArray))] (by kernel_rfl) (by kernel_rfl) (by decide) (by rintro _ w' ⟨i, rfl⟩ hb; exact HJ.out _ ((HW.out i).trans (hb.mono (HW.out i).size))) (HJ.out _ (Below.refl _ _).drew) ?_
    simp only [Go.Flo.pair, Go.Mix.calm, List.take, List.drop, if_true, Bool.false_eq_true, if_false, Nat.reduceAdd, Nat.reduceSub]
    have k0 : ∀ i, (W i).cell? ⟨g, 0, none⟩ = some (.int .u8 n0_0) := fun i => ((HW.out i).cell (p := ⟨g, 0, none⟩) hgl).trans a0
    have k1 : ∀ i, (W i).cell? ⟨g, 1, none⟩ = some (.int .i64 n0_1) := fun i => ((HW.out i).cell (p := ⟨g, 1, none⟩) hgl).trans a1
    have k2 : ∀ i, (W i).cell? ⟨g, 2, none⟩ = some (.int .i32 n0_2) := fun i => ((HW.out i).cell (p := ⟨g, 2, none⟩) hgl).trans a2
    have k3 : ∀ i, (W i).cell? ⟨g, 3, none⟩ = some (.int .i32 n0_3) := fun i => ((HW.out i).cell (p := ⟨g, 3, none⟩) hgl).trans a3
    have k4 : ∀ i, (W i).cell? ⟨g, 4, none⟩ = some (.int .u32 (m : Int)) := fun i => ((HW.out i).cell (p := ⟨g, 4, none⟩) hgl).trans a4
    have k5 : ∀ i, (W i).cell? ⟨g, 5, none⟩ = some (.int .u32 (n : Int)) := fun i => ((HW.out i).cell (p := ⟨g, 5, none⟩) hgl).trans a5
    have j0 : ∀ i, (W i).cell? ⟨f, 0, none⟩ = some (.int .u8 n0_0) := fun i => ((HW.out i).cell (p := ⟨f, 0, none⟩) hfl).trans d0
    have j1 : ∀ i, (W i).cell? ⟨f, 1, none⟩ = some (.int .i64 n0_1) := fun i => ((HW.out i).cell (p := ⟨f, 1, none⟩) hfl).trans d1
    have j2 : ∀ i, (W i).cell? ⟨f, 2, none⟩ = some (.int .i32 n0_2) := fun i => ((HW.out i).cell (p := ⟨f, 2, none⟩) hfl).trans d2
    have j3 : ∀ i, (W i).cell? ⟨f, 3, none⟩ = some (.int .i32 n0_3) := fun i => ((HW.out i).cell (p := ⟨f, 3, none⟩) hfl).trans d3
    have j4 : ∀ i, (W i).cell? ⟨f, 4, none⟩ = some (.int .u32 (m : Int)) := fun i => ((HW.out i).cell (p := ⟨f, 4, none⟩) hfl).trans d4
    have j5 : ∀ i, (W i).cell? ⟨f, 5, none⟩ = some (.int .u32 (n : Int)) := fun i => ((HW.out i).cell (p := ⟨f, 5, none⟩) hfl).trans d5
    (repeat (first | (refine Go.Flo.fw_calm rfl ?_ (fun K hK => ?_); (first | exact Go.Mix.wanted_none rfl | exact Go.Mix.wanted_tt rfl rfl rfl | exact Go.Mix.wanted_ff rfl rfl rfl); go_big_quiet_op; refine hK _ ?_; clear hK K) | (refine Go.Flo.fw_skip ?_ (fun K hK => ?_); (first | exact Go.Mix.wanted_tf rfl rfl rfl | exact Go.Mix.wanted_ft rfl rfl rfl); go_simp; refine hK _ ?_; clear hK K) | (refine Go.Flo.fw_any rfl ?_ (fun K hK => ?_); (first | exact Go.Mix.wanted_none rfl | exact Go.Mix.wanted_tt rfl rfl rfl | exact Go.Mix.wanted_ff rfl rfl rfl); go_simp; (try (go_ints; try go_simp)); refine hK _ ?_; clear hK K)))
    refine Go.Flo.fw_loud rfl ?_ rfl (by simp) (fun wv hwv hav K hK => ?_) (fun v hv K hK => ?_)
    · (first | exact Go.Mix.wanted_none rfl | exact Go.Mix.wanted_tt rfl rfl rfl | exact Go.Mix.wanted_ff rfl rfl rfl)
    · obtain ⟨iv, rfl⟩ := hwv
      have hbv := HW.out iv
      (first | go_big_op | go_simp)
      go_at_call 44
      refine (Right_at n0_0 n0_1 n0_2 n0_3 m n t _ HV.out.1).mono ?_
      rintro e w' ⟨rfl, hb⟩
      exact hK _ _ (Go.Flo.owes_is _ rfl hb)
    obtain rfl := hv.is
    go_simp
    refine hK _ ?_
    clear hK K hv
    (repeat (first | (refine Go.Flo.fw_calm rfl ?_ (fun K hK => ?_); (first | exact Go.Mix.wanted_none rfl | exact Go.Mix.wanted_tt rfl rfl rfl | exact Go.Mix.wanted_ff rfl rfl rfl); go_big_quiet_op; refine hK _ ?_; clear hK K) | (refine Go.Flo.fw_skip ?_ (fun K hK => ?_); (first | exact Go.Mix.wanted_tf rfl rfl rfl | exact Go.Mix.wanted_ft rfl rfl rfl); go_simp; refine hK _ ?_; clear hK K) | (refine Go.Flo.fw_any rfl ?_ (fun K hK => ?_); (first | exact Go.Mix.wanted_none rfl | exact Go.Mix.wanted_tt rfl rfl rfl | exact Go.Mix.wanted_ff rfl rfl rfl); go_simp; (try (go_ints; try go_simp)); refine hK _ ?_; clear hK K)))
    refine Go.Flo.fw_loud rfl ?_ rfl (by simp) (fun wv hwv hav K hK => ?_) (fun v hv K hK => ?_)
    · (first | exact Go.Mix.wanted_none rfl | exact Go.Mix.wanted_tt rfl rfl rfl | exact Go.Mix.wanted_ff rfl rfl rfl)
    · obtain ⟨iv, rfl⟩ := hwv
      have hbv := HW.out iv
      (first | go_big_op | go_simp)
      go_at_call 45
      refine (rRightD n0_0 n0_1 n0_2 n0_3 m n t _ HV.out.1).mono ?_
      rintro e w' ⟨rfl, hb⟩
      exact hK _ _ (Go.Flo.owes_is _ rfl hb)
    obtain rfl := hv.is
    go_simp
    refine hK _ ?_
    clear hK K hv
    (repeat (first | (refine Go.Flo.fw_calm rfl ?_ (fun K hK => ?_); (first | exact Go.Mix.wanted_none rfl | exact Go.Mix.wanted_tt rfl rfl rfl | exact Go.Mix.wanted_ff rfl rfl rfl); go_big_quiet_op; refine hK _ ?_; clear hK K) | (refine Go.Flo.fw_skip ?_ (fun K hK => ?_); (first | exact Go.Mix.wanted_tf rfl rfl rfl | exact Go.Mix.wanted_ft rfl rfl rfl); go_simp; refine hK _ ?_; clear hK K) | (refine Go.Flo.fw_any rfl ?_ (fun K hK => ?_); (first | exact Go.Mix.wanted_none rfl | exact Go.Mix.wanted_tt rfl rfl rfl | exact Go.Mix.wanted_ff rfl rfl rfl); go_simp; (try (go_ints; try go_simp)); refine hK _ ?_; clear hK K)))
    refine Go.Flo.fw_loud rfl ?_ rfl (by simp) (fun wv hwv hav K hK => ?_) (fun v hv K hK => ?_)
    · (first | exact Go.Mix.wanted_none rfl | exact Go.Mix.wanted_tt rfl rfl rfl | exact Go.Mix.wanted_ff rfl rfl rfl)
    · obtain ⟨iv, rfl⟩ := hwv
      have hbv := HW.out iv
      (first | go_big_op | go_simp)
      go_at_call 46
      with_reducible refine (Look_at n0_0 n0_1 n0_2 n0_3 m n x1 x2 x3 v _ HOK.out HD.out.1.1 HD.out.1.2 HD.out.2.1 HD.out.2.2 HV.out.2).mono ?_
      rintro e w' ⟨rfl, hb⟩
      exact hK _ _ (Go.Flo.owes_is _ rfl hb)
    obtain rfl := hv.is
    go_simp
    refine hK _ ?_
    clear hK K hv
    (repeat (first | (refine Go.Flo.fw_calm rfl ?_ (fun K hK => ?_); (first | exact Go.Mix.wanted_none rfl | exact Go.Mix.wanted_tt rfl rfl rfl | exact Go.Mix.wanted_ff rfl rfl rfl); go_big_quiet_op; refine hK _ ?_; clear hK K) | (refine Go.Flo.fw_skip ?_ (fun K hK => ?_); (first | exact Go.Mix.wanted_tf rfl rfl rfl | exact Go.Mix.wanted_ft rfl rfl rfl); go_simp; refine hK _ ?_; clear hK K) | (refine Go.Flo.fw_any rfl ?_ (fun K hK => ?_); (first | exact Go.Mix.wanted_none rfl | exact Go.Mix.wanted_tt rfl rfl rfl | exact Go.Mix.wanted_ff rfl rfl rfl); go_simp; (try (go_ints; try go_simp)); refine hK _ ?_; clear hK K)))
    refine Go.Flo.fw_loud rfl ?_ rfl (by simp) (fun wv hwv hav K hK => ?_) (fun v hv K hK => ?_)
    · (first | exact Go.Mix.wanted_none rfl | exact Go.Mix.wanted_tt rfl rfl rfl | exact Go.Mix.wanted_ff rfl rfl rfl)
    · obtain ⟨iv, rfl⟩ := hwv
      have hbv := HW.out iv
      (first | go_big_op | go_simp)
      go_at_call 47
      refine (rLook_at n0_0 n0_1 n0_2 n0_3 m n x1 x2 x3 v _ HOK.out HD.out.1.1 HD.out.1.2 HD.out.2.1 HD.out.2.2 HV.out.2).mono ?_
      rintro e w' ⟨rfl, hb⟩
      exact hK _ _ (Go.Flo.owes_is _ rfl hb)
    obtain rfl := hv.is
    go_simp
    refine hK _ ?_
    clear hK K hv
    (repeat (first | (refine Go.Flo.fw_calm rfl ?_ (fun K hK => ?_); (first | exact Go.Mix.wanted_none rfl | exact Go.Mix.wanted_tt rfl rfl rfl | exact Go.Mix.wanted_ff rfl rfl rfl); go_big_quiet_op; refine hK _ ?_; clear hK K) | (refine Go.Flo.fw_skip ?_ (fun K hK => ?_); (first | exact Go.Mix.wanted_tf rfl rfl rfl | exact Go.Mix.wanted_ft rfl rfl rfl); go_simp; refine hK _ ?_; clear hK K) | (refine Go.Flo.fw_any rfl ?_ (fun K hK => ?_); (first | exact Go.Mix.wanted_none rfl | exact Go.Mix.wanted_tt rfl rfl rfl | exact Go.Mix.wanted_ff rfl rfl rfl); go_simp; (try (go_ints; try go_simp)); refine hK _ ?_; clear hK K)))
    refine Go.Flo.fw_loud rfl ?_ rfl (by simp) (fun wv hwv hav K hK => ?_) (fun v hv K hK => ?_)
    · (first | exact Go.Mix.wanted_none rfl | exact Go.Mix.wanted_tt rfl rfl rfl | exact Go.Mix.wanted_ff rfl rfl rfl)
    · obtain ⟨iv, rfl⟩ := hwv
      have hbv := HW.out iv
      (first | go_big_op | go_simp)
      go_at_call 48
      refine (Vio_at 4 true _ rfl).mono ?_
      rintro e w' ⟨rfl, rfl⟩
      exact hK _ _ (Go.Flo.owes_is _ rfl (Below.refl _ _))
    obtain rfl := hv.is
    go_simp
    refine hK _ ?_
    clear hK K hv
    (repeat (first | (refine Go.Flo.fw_calm rfl ?_ (fun K hK => ?_); (first | exact Go.Mix.wanted_none rfl | exact Go.Mix.wanted_tt rfl rfl rfl | exact Go.Mix.wanted_ff rfl rfl rfl); go_big_quiet_op; refine hK _ ?_; clear hK K) | (refine Go.Flo.fw_skip ?_ (fun K hK => ?_); (first | exact Go.Mix.wanted_tf rfl rfl rfl | exact Go.Mix.wanted_ft rfl rfl rfl); go_simp; refine hK _ ?_; clear hK K) | (refine Go.Flo.fw_any rfl ?_ (fun K hK => ?_); (first | exact Go.Mix.wanted_none rfl | exact Go.Mix.wanted_tt rfl rfl rfl | exact Go.Mix.wanted_ff rfl rfl rfl); go_simp; (try (go_ints; try go_simp)); refine hK _ ?_; clear hK K)))
    refine Go.Flo.fw_loud rfl ?_ rfl (by simp) (fun wv hwv hav K hK => ?_) (fun v hv K hK => ?_)
    · (first | exact Go.Mix.wanted_none rfl | exact Go.Mix.wanted_tt rfl rfl rfl | exact Go.Mix.wanted_ff rfl rfl rfl)
    · obtain ⟨iv, rfl⟩ := hwv
      have hbv := HW.out iv
      (first | go_big_op | go_simp)
      go_at_call 49
      refine (Name_at 4 ({ data := #[117, 110, 101, 120, 112, 101, 99, 116, 101, 100] } : ByteArray) _ (.inr (.inr (.inr (.inr (.inl ⟨rfl, rfl⟩)))))).mono ?_
      rintro e w' ⟨rfl, rfl⟩
      exact hK _ _ (Go.Flo.owes_is _ rfl (Below.refl _ _))
    obtain rfl := hv.is
    go_simp
    refine hK _ ?_
    clear hK K hv
    (repeat (first | (refine Go.Flo.fw_calm rfl ?_ (fun K hK => ?_); (first | exact Go.Mix.wanted_none rfl | exact Go.Mix.wanted_tt rfl rfl rfl | exact Go.Mix.wanted_ff rfl rfl rfl); go_big_quiet_op; refine hK _ ?_; clear hK K) | (refine Go.Flo.fw_skip ?_ (fun K hK => ?_); (first | exact Go.Mix.wanted_tf rfl rfl rfl | exact Go.Mix.wanted_ft rfl rfl rfl); go_simp; refine hK _ ?_; clear hK K) | (refine Go.Flo.fw_any rfl ?_ (fun K hK => ?_); (first | exact Go.Mix.wanted_none rfl | exact Go.Mix.wanted_tt rfl rfl rfl | exact Go.Mix.wanted_ff rfl rfl rfl); go_simp; (try (go_ints; try go_simp)); refine hK _ ?_; clear hK K)))
    refine Go.Flo.fw_nil ?_
    intro wz hwwz hfwz huwz
    refine Go.Flo.tw_nil ?_
    obtain ⟨iend, hiend⟩ := hwwz
    have hbwz := HW.out iend
    rw [← hiend] at hbwz
    clear hiend iend huwz
    have HB := Lib.hid (HS.out.be.trans (hbwz.mono HS.out.be.size))
    clear hfwz HJ HW hne k0 k1 k2 k3 k4 k5 a0 a1 a2 a3 a4 a5 hbwz j0 j1 j2 j3 j4 j5 d0 d1 d2 d3 d4 d5
    clear W I
    go_wp2
    go_ret
    exact ⟨rfl, HB.out⟩
end Go.Proofs.Ytbomkneajmgckaa
