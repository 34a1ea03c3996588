/- Layer 15: masks. -/
import Derived.Test.YtbomkneajmgckaaCk
import Derived.Test.YtbomkneajmgckaaFlo3
namespace Go.Proofs.Ytbomkneajmgckaa
open Go.RowKit Go.Own
set_option linter.unusedVariables false
set_option linter.unusedSimpArgs false
theorem size_df : (Try.prog.info? 92).map (·.size) = some 6 := by kernel_rfl
theorem look_exp0 {p : Int} {m n : Nat} {now before : Int} {first : Bool} {v : Int} (c : 0 ≤ p) (d : p < 16) (h : expOf m n (u32 now) = v) : (Df.mk 1 p 0 0 m n).look now before first = v := (look_exp c d (Int.le_refl _)).trans h
theorem back32 (X : Nat) (h : X < 4294967296) : -2147483648 ≤ IntKind.i32.wrap (X : Int) ∧ IntKind.i32.wrap (X : Int) ≤ 2147483647 ∧ u32 (IntKind.i32.wrap (X : Int)) = X := by
  rw [IntKind.wrap_i32]
  refine ⟨by omega, by omega, ?_⟩
  unfold u32
  have e : ((X : Int) + 2147483648) % 4294967296 = if (X : Int) < 2147483648 then (X : Int) + 2147483648 else (X : Int) - 2147483648 := by
    split <;> omega
  rw [e]
  split <;> omega
/- a Look in a drawn region: its contract -/
set_option maxRecDepth 100000 in
set_option maxHeartbeats 4000000 in
theorem walk_CheckMasks (x0 x1 x2 x3 x4 : Int) (w : World) (w0 : (Lit.int .u8 x0).wf = true) (w1 : (Lit.int .u32 x1).wf = true) (w2 : (Lit.int .u32 x2).wf = true) (w3 : (Lit.int .i32 x3).wf = true) (w4 : (Lit.int .i32 x4).wf = true) :
    Calls Try.prog 10 #[.int .u8 x0, .int .u32 x1, .int .u32 x2, .int .i32 x3, .int .i32 x4] w fun e w' => e = .returned (.bool true) ∧ Below w.heap.size w w' := by
  obtain ⟨p0, p1⟩ := bounds_u8 w0
  obtain ⟨m0, m1⟩ := bounds_u32 w1
  obtain ⟨n0, n1⟩ := bounds_u32 w2
  obtain ⟨r0, r1⟩ := bounds_i32 w3
  obtain ⟨s0, s1⟩ := bounds_i32 w4
  clear w0 w1 w2 w3 w4
  obtain ⟨m, rfl⟩ := Int.eq_ofNat_of_zero_le m0
  obtain ⟨n, rfl⟩ := Int.eq_ofNat_of_zero_le n0
  have hm : m < 4294967296 := by omega
  have hn : n < 4294967296 := by omega
  clear m0 m1 n0 n1
  have t0 : 0 ≤ x0 % 16 := by omega
  have t1 : x0 % 16 < 16 := by omega
  obtain ⟨p, hp⟩ : ∃ p, p = x0 % 16 := ⟨_, rfl⟩
  rw [← hp] at t0 t1
  have hp2 : x0 % 16 = p := hp.symm
  clear hp
  have hua := u32_int x3
  have hal := u32_lt x3
  have huo := u32_int x4
  have hol := u32_lt x4
  obtain ⟨a, ha⟩ : ∃ a, a = u32 x3 := ⟨_, rfl⟩
  obtain ⟨o, ho⟩ : ∃ o, o = u32 x4 := ⟨_, rfl⟩
  rw [← ha] at hua hal
  rw [← ho] at huo hol
  have e1 := and32 a m hal hm
  have e2 := and32 n m hn hm
  have e3 := andnot32 o m hol hm
  have e4 := orW32 _ _ (and_lt32 m hal) (and_lt32 (4294967295 - m) hol)
  have e5 := mixed_and a o m hm
  have hxl : (a &&& m) ||| (o &&& (4294967295 - m)) < 4294967296 := Nat.or_lt_two_pow (n := 32) (and_lt32 m hal) (and_lt32 _ hol)
  have HOK := Lib.hid (Df.ok_of (k := 1) (p := p) (l := 0) (h := 0) (m := m) (n := n) (by decide) (by decide) t0 t1 (by decide) (by decide) (by decide) (by decide) hm hn)
  obtain ⟨q, hq⟩ : ∃ q, q = o &&& (4294967295 - m) := ⟨_, rfl⟩
  rw [← hq] at e3 e4 e5 hxl
  obtain ⟨X, hX⟩ : ∃ X, X = (a &&& m) ||| q := ⟨_, rfl⟩
  rw [← hX] at e4 e5 hxl
  obtain ⟨c, hc⟩ : ∃ c, c = a &&& m := ⟨_, rfl⟩
  obtain ⟨d, hd⟩ : ∃ d, d = n &&& m := ⟨_, rfl⟩
  obtain ⟨v, hv⟩ : ∃ v : Int, v = if c = d then 1 else 4 := ⟨_, rfl⟩
  have v1 : expOf m n (u32 x3) = v := by rw [← ha, hv, expOf, ← hc, ← hd]
  obtain ⟨y, hy⟩ : ∃ y, y = IntKind.i32.wrap (X : Int) := ⟨_, rfl⟩
  have y0 : -2147483648 ≤ y ∧ y ≤ 2147483647 ∧ u32 y = X := by
    rw [hy]
    exact back32 X hxl
  have v2 : expOf m n (u32 y) = v := by rw [y0.2.2, expOf, e5, ← hc, ← hd, hv]
  have HV := Lib.hid (And.intro v1 (And.intro v2 (And.intro y0.1 y0.2.1)))
  rw [← hc] at e1 e4
  rw [← hd] at e2
  have hy2 : wrap32 (X : Int) = y := by rw [hy, IntKind.wrap_i32, wrap32]
  clear v1 v2 e5 hX hq ha ho hc hd hy y0 hal hol hxl
  go_enter Try.func10, Try.ntmps10
  by_cases hcd : c = d
  · rw [if_pos hcd] at hv
    subst hcd hv
    skip
    go_wp2_with fail
    go_at_call 43
    refine (awake15 _).mono ?_
    rintro e wb ⟨rfl, hb1⟩
    have g0 := heap_alloc_new wb (.cells #[.int .u8 1, .int .i64 p, .int .i32 0, .int .i32 0, .int .u32 ((m : Nat) : Int), .int .u32 ((n : Nat) : Int)] 92)
    have hb2 := hb1.alloc hb1.size (.cells #[.int .u8 1, .int .i64 p, .int .i32 0, .int .i32 0, .int .u32 ((m : Nat) : Int), .int .u32 ((n : Nat) : Int)] 92)
    clear hb1
    go_wp2_with fail
    obtain ⟨g, hg⟩ : ∃ g, g = wb.heap.size := ⟨_, rfl⟩
    obtain ⟨wc, hwc⟩ : ∃ wc, wc = wb.alloc (.cells #[.int .u8 1, .int .i64 p, .int .i32 0, .int .i32 0, .int .u32 ((m : Nat) : Int), .int .u32 ((n : Nat) : Int)] 92) := ⟨_, rfl⟩
    rw [← hg, ← hwc] at g0
    rw [← hwc] at hb2
    rw [← hg, ← hwc]
    clear hg hwc
    have hgl := box_lt g0
    have a0 := cell_of_row _ _ 0 _ _ _ g0
    have a1 := cell_of_row _ _ 1 _ _ _ g0
    have a2 := cell_of_row _ _ 2 _ _ _ g0
    have a3 := cell_of_row _ _ 3 _ _ _ g0
    have a4 := cell_of_row _ _ 4 _ _ _ g0
    have a5 := cell_of_row _ _ 5 _ _ _ g0
    obtain ⟨I, W, hne, hWI, hIW⟩ := Go.Mix.family (fun v => Below wc.heap.size wc v) (Below.refl _ _)
    have HJ := Lib.hid hIW
    have HW := Lib.hid hWI
    clear hWI hIW
    refine Go.Flo.wp_region (fun w' => ∃ i, w' = W i) 26 [Go.Flo.Spec.is (.int .u8 1), Go.Flo.Spec.is (.int .u8 1), Go.Flo.Spec.is (.int .u8 1)] (by kernel_rfl) (by kernel_rfl) (by decide) (by rintro _ w' ⟨i, rfl⟩ hb; exact HJ.out _ ((HW.out i).trans (hb.mono (HW.out i).size))) (HJ.out _ (Below.refl _ _).drew) ?_
    simp only [Go.Flo.pair, Go.Mix.calm, List.take, List.drop, if_true, Bool.false_eq_true, if_false, Nat.reduceAdd, Nat.reduceSub]
    have k0 : ∀ i, (W i).cell? ⟨g, 0, none⟩ = some (.int .u8 1) := fun i => ((HW.out i).cell (p := ⟨g, 0, none⟩) hgl).trans a0
    have k1 : ∀ i, (W i).cell? ⟨g, 1, none⟩ = some (.int .i64 p) := fun i => ((HW.out i).cell (p := ⟨g, 1, none⟩) hgl).trans a1
    have k2 : ∀ i, (W i).cell? ⟨g, 2, none⟩ = some (.int .i32 0) := fun i => ((HW.out i).cell (p := ⟨g, 2, none⟩) hgl).trans a2
    have k3 : ∀ i, (W i).cell? ⟨g, 3, none⟩ = some (.int .i32 0) := fun i => ((HW.out i).cell (p := ⟨g, 3, none⟩) hgl).trans a3
    have k4 : ∀ i, (W i).cell? ⟨g, 4, none⟩ = some (.int .u32 (m : Int)) := fun i => ((HW.out i).cell (p := ⟨g, 4, none⟩) hgl).trans a4
    have k5 : ∀ i, (W i).cell? ⟨g, 5, none⟩ = some (.int .u32 (n : Int)) := fun i => ((HW.out i).cell (p := ⟨g, 5, none⟩) hgl).trans a5
    (repeat (first | (refine Go.Flo.fw_calm rfl ?_ (fun K hK => ?_); (first | exact Go.Mix.wanted_none rfl | exact Go.Mix.wanted_tt rfl rfl rfl | exact Go.Mix.wanted_ff rfl rfl rfl); go_big_quiet_op; refine hK _ ?_; clear hK K) | (refine Go.Flo.fw_skip ?_ (fun K hK => ?_); (first | exact Go.Mix.wanted_tf rfl rfl rfl | exact Go.Mix.wanted_ft rfl rfl rfl); go_simp; refine hK _ ?_; clear hK K) | (refine Go.Flo.fw_any rfl ?_ (fun K hK => ?_); (first | exact Go.Mix.wanted_none rfl | exact Go.Mix.wanted_tt rfl rfl rfl | exact Go.Mix.wanted_ff rfl rfl rfl); go_simp; (try (go_ints; try go_simp)); refine hK _ ?_; clear hK K)))
    refine Go.Flo.fw_loud rfl ?_ rfl (by simp) (fun wv hwv hav K hK => ?_) (fun v hv K hK => ?_)
    · (first | exact Go.Mix.wanted_none rfl | exact Go.Mix.wanted_tt rfl rfl rfl | exact Go.Mix.wanted_ff rfl rfl rfl)
    · obtain ⟨iv, rfl⟩ := hwv
      have hbv := HW.out iv
      (first | go_big_op | go_simp)
      go_at_call 46
      with_reducible refine (Look_at 1 p 0 0 m n x3 x4 false 1 _ HOK.out r0 r1 s0 s1 (look_exp0 t0 t1 HV.out.1)).mono ?_
      rintro e w' ⟨rfl, hb⟩
      exact hK _ _ (Go.Flo.owes_is _ rfl hb)
    obtain rfl := hv.is
    go_simp
    refine hK _ ?_
    clear hK K hv
    (repeat (first | (refine Go.Flo.fw_calm rfl ?_ (fun K hK => ?_); (first | exact Go.Mix.wanted_none rfl | exact Go.Mix.wanted_tt rfl rfl rfl | exact Go.Mix.wanted_ff rfl rfl rfl); go_big_quiet_op; refine hK _ ?_; clear hK K) | (refine Go.Flo.fw_skip ?_ (fun K hK => ?_); (first | exact Go.Mix.wanted_tf rfl rfl rfl | exact Go.Mix.wanted_ft rfl rfl rfl); go_simp; refine hK _ ?_; clear hK K) | (refine Go.Flo.fw_any rfl ?_ (fun K hK => ?_); (first | exact Go.Mix.wanted_none rfl | exact Go.Mix.wanted_tt rfl rfl rfl | exact Go.Mix.wanted_ff rfl rfl rfl); go_simp; (try (go_ints; try go_simp)); refine hK _ ?_; clear hK K)))
    refine Go.Flo.fw_loud rfl ?_ rfl (by simp) (fun wv hwv hav K hK => ?_) (fun v hv K hK => ?_)
    · (first | exact Go.Mix.wanted_none rfl | exact Go.Mix.wanted_tt rfl rfl rfl | exact Go.Mix.wanted_ff rfl rfl rfl)
    · obtain ⟨iv, rfl⟩ := hwv
      have hbv := HW.out iv
      (first | go_big_op | go_simp)
      go_at_call 46
      with_reducible refine (Look_at 1 p 0 0 m n x3 0 true 1 _ HOK.out r0 r1 (by decide) (by decide) (look_exp0 t0 t1 HV.out.1)).mono ?_
      rintro e w' ⟨rfl, hb⟩
      exact hK _ _ (Go.Flo.owes_is _ rfl hb)
    obtain rfl := hv.is
    go_simp
    refine hK _ ?_
    clear hK K hv
    (repeat (first | (refine Go.Flo.fw_calm rfl ?_ (fun K hK => ?_); (first | exact Go.Mix.wanted_none rfl | exact Go.Mix.wanted_tt rfl rfl rfl | exact Go.Mix.wanted_ff rfl rfl rfl); go_big_quiet_op; refine hK _ ?_; clear hK K) | (refine Go.Flo.fw_skip ?_ (fun K hK => ?_); (first | exact Go.Mix.wanted_tf rfl rfl rfl | exact Go.Mix.wanted_ft rfl rfl rfl); go_simp; refine hK _ ?_; clear hK K) | (refine Go.Flo.fw_any rfl ?_ (fun K hK => ?_); (first | exact Go.Mix.wanted_none rfl | exact Go.Mix.wanted_tt rfl rfl rfl | exact Go.Mix.wanted_ff rfl rfl rfl); go_simp; (try (go_ints; try go_simp)); refine hK _ ?_; clear hK K)))
    refine Go.Flo.fw_loud rfl ?_ rfl (by simp) (fun wv hwv hav K hK => ?_) (fun v hv K hK => ?_)
    · (first | exact Go.Mix.wanted_none rfl | exact Go.Mix.wanted_tt rfl rfl rfl | exact Go.Mix.wanted_ff rfl rfl rfl)
    · obtain ⟨iv, rfl⟩ := hwv
      have hbv := HW.out iv
      (first | go_big_op | go_simp)
      go_at_call 46
      with_reducible refine (Look_at 1 p 0 0 m n y 5 false 1 _ HOK.out HV.out.2.2.1 HV.out.2.2.2 (by decide) (by decide) (look_exp0 t0 t1 HV.out.2.1)).mono ?_
      rintro e w' ⟨rfl, hb⟩
      exact hK _ _ (Go.Flo.owes_is _ rfl hb)
    obtain rfl := hv.is
    go_simp
    refine hK _ ?_
    clear hK K hv
    skip
    (repeat (first | (refine Go.Flo.fw_calm rfl ?_ (fun K hK => ?_); (first | exact Go.Mix.wanted_none rfl | exact Go.Mix.wanted_tt rfl rfl rfl | exact Go.Mix.wanted_ff rfl rfl rfl); go_big_quiet_op; refine hK _ ?_; clear hK K) | (refine Go.Flo.fw_skip ?_ (fun K hK => ?_); (first | exact Go.Mix.wanted_tf rfl rfl rfl | exact Go.Mix.wanted_ft rfl rfl rfl); go_simp; refine hK _ ?_; clear hK K) | (refine Go.Flo.fw_any rfl ?_ (fun K hK => ?_); (first | exact Go.Mix.wanted_none rfl | exact Go.Mix.wanted_tt rfl rfl rfl | exact Go.Mix.wanted_ff rfl rfl rfl); go_simp; (try (go_ints; try go_simp)); refine hK _ ?_; clear hK K)))
    refine Go.Flo.fw_nil ?_
    intro wz hwwz hfwz huwz
    refine Go.Flo.tw_nil ?_
    obtain ⟨iend, hiend⟩ := hwwz
    have hbwz := HW.out iend
    rw [← hiend] at hbwz
    clear hiend iend huwz
    have HB := Lib.hid (hb2.trans (hbwz.mono hb2.size))
    clear hfwz HJ HW hne k0 k1 k2 k3 k4 k5 a0 a1 a2 a3 a4 a5 hbwz hb2
    clear W I
    go_wp2
    go_ret
    exact ⟨rfl, HB.out⟩
  · rw [if_neg hcd] at hv
    subst hv
    have hcd2 : ((c : Int) == (d : Int)) = false := by simp; omega
    clear hcd
    skip
    go_wp2_with fail
    go_at_call 43
    refine (awake15 _).mono ?_
    rintro e wb ⟨rfl, hb1⟩
    have g0 := heap_alloc_new wb (.cells #[.int .u8 1, .int .i64 p, .int .i32 0, .int .i32 0, .int .u32 ((m : Nat) : Int), .int .u32 ((n : Nat) : Int)] 92)
    have hb2 := hb1.alloc hb1.size (.cells #[.int .u8 1, .int .i64 p, .int .i32 0, .int .i32 0, .int .u32 ((m : Nat) : Int), .int .u32 ((n : Nat) : Int)] 92)
    clear hb1
    go_wp2_with fail
    obtain ⟨g, hg⟩ : ∃ g, g = wb.heap.size := ⟨_, rfl⟩
    obtain ⟨wc, hwc⟩ : ∃ wc, wc = wb.alloc (.cells #[.int .u8 1, .int .i64 p, .int .i32 0, .int .i32 0, .int .u32 ((m : Nat) : Int), .int .u32 ((n : Nat) : Int)] 92) := ⟨_, rfl⟩
    rw [← hg, ← hwc] at g0
    rw [← hwc] at hb2
    rw [← hg, ← hwc]
    clear hg hwc
    have hgl := box_lt g0
    have a0 := cell_of_row _ _ 0 _ _ _ g0
    have a1 := cell_of_row _ _ 1 _ _ _ g0
    have a2 := cell_of_row _ _ 2 _ _ _ g0
    have a3 := cell_of_row _ _ 3 _ _ _ g0
    have a4 := cell_of_row _ _ 4 _ _ _ g0
    have a5 := cell_of_row _ _ 5 _ _ _ g0
    obtain ⟨I, W, hne, hWI, hIW⟩ := Go.Mix.family (fun v => Below wc.heap.size wc v) (Below.refl _ _)
    have HJ := Lib.hid hIW
    have HW := Lib.hid hWI
    clear hWI hIW
    refine Go.Flo.wp_region (fun w' => ∃ i, w' = W i) 26 [Go.Flo.Spec.is (.int .u8 4), Go.Flo.Spec.is (.int .u8 4), Go.Flo.Spec.is (.int .u8 4), Go.Flo.Spec.is (.int .u8 4)] (by kernel_rfl) (by kernel_rfl) (by decide) (by rintro _ w' ⟨i, rfl⟩ hb; exact HJ.out _ ((HW.out i).trans (hb.mono (HW.out i).size))) (HJ.out _ (Below.refl _ _).drew) ?_
    simp only [Go.Flo.pair, Go.Mix.calm, List.take, List.drop, if_true, Bool.false_eq_true, if_false, Nat.reduceAdd, Nat.reduceSub]
    have k0 : ∀ i, (W i).cell? ⟨g, 0, none⟩ = some (.int .u8 1) := fun i => ((HW.out i).cell (p := ⟨g, 0, none⟩) hgl).trans a0
    have k1 : ∀ i, (W i).cell? ⟨g, 1, none⟩ = some (.int .i64 p) := fun i => ((HW.out i).cell (p := ⟨g, 1, none⟩) hgl).trans a1
    have k2 : ∀ i, (W i).cell? ⟨g, 2, none⟩ = some (.int .i32 0) := fun i => ((HW.out i).cell (p := ⟨g, 2, none⟩) hgl).trans a2
    have k3 : ∀ i, (W i).cell? ⟨g, 3, none⟩ = some (.int .i32 0) := fun i => ((HW.out i).cell (p := ⟨g, 3, none⟩) hgl).trans a3
    have k4 : ∀ i, (W i).cell? ⟨g, 4, none⟩ = some (.int .u32 (m : Int)) := fun i => ((HW.out i).cell (p := ⟨g, 4, none⟩) hgl).trans a4
    have k5 : ∀ i, (W i).cell? ⟨g, 5, none⟩ = some (.int .u32 (n : Int)) := fun i => ((HW.out i).cell (p := ⟨g, 5, none⟩) hgl).trans a5
    (repeat (first | (refine Go.Flo.fw_calm rfl ?_ (fun K hK => ?_); (first | exact Go.Mix.wanted_none rfl | exact Go.Mix.wanted_tt rfl rfl rfl | exact Go.Mix.wanted_ff rfl rfl rfl); go_big_quiet_op; refine hK _ ?_; clear hK K) | (refine Go.Flo.fw_skip ?_ (fun K hK => ?_); (first | exact Go.Mix.wanted_tf rfl rfl rfl | exact Go.Mix.wanted_ft rfl rfl rfl); go_simp; refine hK _ ?_; clear hK K) | (refine Go.Flo.fw_any rfl ?_ (fun K hK => ?_); (first | exact Go.Mix.wanted_none rfl | exact Go.Mix.wanted_tt rfl rfl rfl | exact Go.Mix.wanted_ff rfl rfl rfl); go_simp; (try (go_ints; try go_simp)); refine hK _ ?_; clear hK K)))
    refine Go.Flo.fw_loud rfl ?_ rfl (by simp) (fun wv hwv hav K hK => ?_) (fun v hv K hK => ?_)
    · (first | exact Go.Mix.wanted_none rfl | exact Go.Mix.wanted_tt rfl rfl rfl | exact Go.Mix.wanted_ff rfl rfl rfl)
    · obtain ⟨iv, rfl⟩ := hwv
      have hbv := HW.out iv
      (first | go_big_op | go_simp)
      go_at_call 46
      with_reducible refine (Look_at 1 p 0 0 m n x3 x4 false 4 _ HOK.out r0 r1 s0 s1 (look_exp0 t0 t1 HV.out.1)).mono ?_
      rintro e w' ⟨rfl, hb⟩
      exact hK _ _ (Go.Flo.owes_is _ rfl hb)
    obtain rfl := hv.is
    go_simp
    refine hK _ ?_
    clear hK K hv
    (repeat (first | (refine Go.Flo.fw_calm rfl ?_ (fun K hK => ?_); (first | exact Go.Mix.wanted_none rfl | exact Go.Mix.wanted_tt rfl rfl rfl | exact Go.Mix.wanted_ff rfl rfl rfl); go_big_quiet_op; refine hK _ ?_; clear hK K) | (refine Go.Flo.fw_skip ?_ (fun K hK => ?_); (first | exact Go.Mix.wanted_tf rfl rfl rfl | exact Go.Mix.wanted_ft rfl rfl rfl); go_simp; refine hK _ ?_; clear hK K) | (refine Go.Flo.fw_any rfl ?_ (fun K hK => ?_); (first | exact Go.Mix.wanted_none rfl | exact Go.Mix.wanted_tt rfl rfl rfl | exact Go.Mix.wanted_ff rfl rfl rfl); go_simp; (try (go_ints; try go_simp)); refine hK _ ?_; clear hK K)))
    refine Go.Flo.fw_loud rfl ?_ rfl (by simp) (fun wv hwv hav K hK => ?_) (fun v hv K hK => ?_)
    · (first | exact Go.Mix.wanted_none rfl | exact Go.Mix.wanted_tt rfl rfl rfl | exact Go.Mix.wanted_ff rfl rfl rfl)
    · obtain ⟨iv, rfl⟩ := hwv
      have hbv := HW.out iv
      (first | go_big_op | go_simp)
      go_at_call 46
      with_reducible refine (Look_at 1 p 0 0 m n x3 0 true 4 _ HOK.out r0 r1 (by decide) (by decide) (look_exp0 t0 t1 HV.out.1)).mono ?_
      rintro e w' ⟨rfl, hb⟩
      exact hK _ _ (Go.Flo.owes_is _ rfl hb)
    obtain rfl := hv.is
    go_simp
    refine hK _ ?_
    clear hK K hv
    (repeat (first | (refine Go.Flo.fw_calm rfl ?_ (fun K hK => ?_); (first | exact Go.Mix.wanted_none rfl | exact Go.Mix.wanted_tt rfl rfl rfl | exact Go.Mix.wanted_ff rfl rfl rfl); go_big_quiet_op; refine hK _ ?_; clear hK K) | (refine Go.Flo.fw_skip ?_ (fun K hK => ?_); (first | exact Go.Mix.wanted_tf rfl rfl rfl | exact Go.Mix.wanted_ft rfl rfl rfl); go_simp; refine hK _ ?_; clear hK K) | (refine Go.Flo.fw_any rfl ?_ (fun K hK => ?_); (first | exact Go.Mix.wanted_none rfl | exact Go.Mix.wanted_tt rfl rfl rfl | exact Go.Mix.wanted_ff rfl rfl rfl); go_simp; (try (go_ints; try go_simp)); refine hK _ ?_; clear hK K)))
    refine Go.Flo.fw_loud rfl ?_ rfl (by simp) (fun wv hwv hav K hK => ?_) (fun v hv K hK => ?_)
    · (first | exact Go.Mix.wanted_none rfl | exact Go.Mix.wanted_tt rfl rfl rfl | exact Go.Mix.wanted_ff rfl rfl rfl)
    · obtain ⟨iv, rfl⟩ := hwv
      have hbv := HW.out iv
      (first | go_big_op | go_simp)
      go_at_call 46
      with_reducible refine (Look_at 1 p 0 0 m n y 5 false 4 _ HOK.out HV.out.2.2.1 HV.out.2.2.2 (by decide) (by decide) (look_exp0 t0 t1 HV.out.2.1)).mono ?_
      rintro e w' ⟨rfl, hb⟩
      exact hK _ _ (Go.Flo.owes_is _ rfl hb)
    obtain rfl := hv.is
    go_simp
    refine hK _ ?_
    clear hK K hv
    (repeat (first | (refine Go.Flo.fw_calm rfl ?_ (fun K hK => ?_); (first | exact Go.Mix.wanted_none rfl | exact Go.Mix.wanted_tt rfl rfl rfl | exact Go.Mix.wanted_ff rfl rfl rfl); go_big_quiet_op; refine hK _ ?_; clear hK K) | (refine Go.Flo.fw_skip ?_ (fun K hK => ?_); (first | exact Go.Mix.wanted_tf rfl rfl rfl | exact Go.Mix.wanted_ft rfl rfl rfl); go_simp; refine hK _ ?_; clear hK K) | (refine Go.Flo.fw_any rfl ?_ (fun K hK => ?_); (first | exact Go.Mix.wanted_none rfl | exact Go.Mix.wanted_tt rfl rfl rfl | exact Go.Mix.wanted_ff rfl rfl rfl); go_simp; (try (go_ints; try go_simp)); refine hK _ ?_; clear hK K)))
    refine Go.Flo.fw_loud rfl ?_ rfl (by simp) (fun wv hwv hav K hK => ?_) (fun v hv K hK => ?_)
    · (first | exact Go.Mix.wanted_none rfl | exact Go.Mix.wanted_tt rfl rfl rfl | exact Go.Mix.wanted_ff rfl rfl rfl)
    · obtain ⟨iv, rfl⟩ := hwv
      have hbv := HW.out iv
      (first | go_big_op | go_simp)
      go_at_call 46
      with_reducible refine (Look_at 1 p 0 0 m n x3 0 false 4 _ HOK.out r0 r1 (by decide) (by decide) (look_exp0 t0 t1 HV.out.1)).mono ?_
      rintro e w' ⟨rfl, hb⟩
      exact hK _ _ (Go.Flo.owes_is _ rfl hb)
    obtain rfl := hv.is
    go_simp
    refine hK _ ?_
    clear hK K hv
    skip
    (repeat (first | (refine Go.Flo.fw_calm rfl ?_ (fun K hK => ?_); (first | exact Go.Mix.wanted_none rfl | exact Go.Mix.wanted_tt rfl rfl rfl | exact Go.Mix.wanted_ff rfl rfl rfl); go_big_quiet_op; refine hK _ ?_; clear hK K) | (refine Go.Flo.fw_skip ?_ (fun K hK => ?_); (first | exact Go.Mix.wanted_tf rfl rfl rfl | exact Go.Mix.wanted_ft rfl rfl rfl); go_simp; refine hK _ ?_; clear hK K) | (refine Go.Flo.fw_any rfl ?_ (fun K hK => ?_); (first | exact Go.Mix.wanted_none rfl | exact Go.Mix.wanted_tt rfl rfl rfl | exact Go.Mix.wanted_ff rfl rfl rfl); go_simp; (try (go_ints; try go_simp)); refine hK _ ?_; clear hK K)))
    refine Go.Flo.fw_nil ?_
    intro wz hwwz hfwz huwz
    refine Go.Flo.tw_nil ?_
    obtain ⟨iend, hiend⟩ := hwwz
    have hbwz := HW.out iend
    rw [← hiend] at hbwz
    clear hiend iend huwz
    have HB := Lib.hid (hb2.trans (hbwz.mono hb2.size))
    clear hfwz HJ HW hne k0 k1 k2 k3 k4 k5 a0 a1 a2 a3 a4 a5 hbwz hb2
    clear W I
    go_wp2
    go_ret
    exact ⟨rfl, HB.out⟩
end Go.Proofs.Ytbomkneajmgckaa
