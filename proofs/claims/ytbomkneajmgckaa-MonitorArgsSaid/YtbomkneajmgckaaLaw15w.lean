/- Layer 15: wider bounds. -/
import Derived.Test.YtbomkneajmgckaaLaw15r
namespace Go.Proofs.Ytbomkneajmgckaa
open Go.RowKit Go.Own
set_option linter.unusedVariables false
set_option linter.unusedSimpArgs false
theorem lim_vio {l h x l' h' : Int} (a : l' ≤ l) (b : h ≤ h') (e : vio (limOf l h x) = false) : vio (limOf l' h' x) = false := by
  unfold limOf at *
  split at e
  · exact absurd e (by decide)
  split at e
  · exact absurd e (by decide)
  · rw [if_neg (by omega), if_neg (by omega)]; rfl
theorem exp_vio {m n a q : Nat} (e : vio (expOf m n a) = false) : vio (expOf (m &&& q) n a) = false := by
  unfold expOf at *
  split at e
  · rename_i h
    rw [← Nat.and_assoc, ← Nat.and_assoc, h, if_pos rfl]; rfl
  · exact absurd e (by decide)
theorem wide_vio {k p l h l' h' now before : Int} {m n q : Nat} (hr : (Df.mk k p l h m n).right = true) (a : l' ≤ l) (b : h ≤ h') (e : vio ((Df.mk k p l h m n).look now before false) = false) : vio ((Df.mk k p l' h' (m &&& q) n).look now before false) = false := by
  have hr2 : (Df.mk k p l' h' (m &&& q) n).right = true := by
    simp only [Df.right, Bool.and_eq_true, decide_eq_true_eq] at hr ⊢
    omega
  unfold Df.look at *
  rw [hr, if_neg (by simp)] at e
  rw [hr2, if_neg (by simp)]
  simp only at e ⊢
  split at e
  · rw [if_pos ‹_›]; exact exp_vio e
  · rw [if_neg ‹_›]
    split at e
    · rw [if_pos ‹_›]; exact lim_vio a b e
    · rw [if_neg ‹_›]; exact lim_vio a b e
set_option maxRecDepth 100000 in
set_option maxHeartbeats 4000000 in
theorem walk_CheckWide (n0_0 n0_1 n0_2 n0_3 n0_4 n0_5 x1 x2 x3 x4 x5 : Int) (w : World) (w0_0 : (Lit.int .u8 n0_0).wf = true) (w0_1 : (Lit.int .i64 n0_1).wf = true) (w0_2 : (Lit.int .i32 n0_2).wf = true) (w0_3 : (Lit.int .i32 n0_3).wf = true) (w0_4 : (Lit.int .u32 n0_4).wf = true) (w0_5 : (Lit.int .u32 n0_5).wf = true)
    (w1 : (Lit.int .i32 x1).wf = true) (w2 : (Lit.int .i32 x2).wf = true) (w3 : (Lit.int .u32 x3).wf = true) (w4 : (Lit.int .i32 x4).wf = true) (w5 : (Lit.int .i32 x5).wf = true) :
    Calls Try.prog 11 #[.agg #[.int .u8 n0_0, .int .i64 n0_1, .int .i32 n0_2, .int .i32 n0_3, .int .u32 n0_4, .int .u32 n0_5], .int .i32 x1, .int .i32 x2, .int .u32 x3, .int .i32 x4, .int .i32 x5] w fun e w' => e = .returned (.bool true) ∧ Below w.heap.size w w' := by
  have b0 := bounds_u8 w0_0
  have b1 := bounds_i64 w0_1
  have b2 := bounds_i32 w0_2
  have b3 := bounds_i32 w0_3
  have b4 := bounds_u32 w0_4
  have b5 := bounds_u32 w0_5
  have c1 := bounds_i32 w1
  have c2 := bounds_i32 w2
  have c3 := bounds_u32 w3
  have c4 := bounds_i32 w4
  have c5 := bounds_i32 w5
  clear w0_0 w0_1 w0_2 w0_3 w0_4 w0_5 w1 w2 w3 w4 w5
  obtain ⟨m, rfl⟩ := Int.eq_ofNat_of_zero_le b4.1
  obtain ⟨n, rfl⟩ := Int.eq_ofNat_of_zero_le b5.1
  obtain ⟨q, rfl⟩ := Int.eq_ofNat_of_zero_le c3.1
  have hm : m < 4294967296 := by omega
  have hn : n < 4294967296 := by omega
  have hq : q < 4294967296 := by omega
  have hok : (Df.mk n0_0 n0_1 n0_2 n0_3 m n).ok := ⟨b0.1, b0.2, b1.1, b1.2, b2.1, b2.2, b3.1, b3.2, hm, hn⟩
  have e1 := and32 m q hm hq
  have hmn := fun (w : World) => run_minC (P := Try.prog) #[21, 21] 21 .i32 n0_2 x1 w
  have hmx := fun (w : World) => run_maxC (P := Try.prog) #[21, 21] 21 .i32 n0_3 x2 w
  have hok2 : (Df.mk n0_0 n0_1 (min n0_2 x1) (max n0_3 x2) (m &&& q) n).ok := ⟨b0.1, b0.2, b1.1, b1.2, by show _ ≤ min n0_2 x1; omega, by show min n0_2 x1 ≤ _; omega, by show _ ≤ max n0_3 x2; omega, by show max n0_3 x2 ≤ _; omega, and_lt32 q hm, hn⟩
  have hwide := fun h => wide_vio (k := n0_0) (p := n0_1) (m := m) (n := n) (now := x4) (before := x5) (q := q) h (Int.min_le_left n0_2 x1) (Int.le_max_left n0_3 x2)
  have HOK := Lib.hid hok
  have HOK2 := Lib.hid hok2
  have HWD := Lib.hid hwide
  obtain ⟨lo, hlo⟩ : ∃ l, l = min n0_2 x1 := ⟨_, rfl⟩
  obtain ⟨hi, hhi⟩ : ∃ l, l = max n0_3 x2 := ⟨_, rfl⟩
  obtain ⟨mq, hmq⟩ : ∃ l, l = m &&& q := ⟨_, rfl⟩
  rw [← hlo] at hmn HOK2 HWD
  rw [← hhi] at hmx HOK2 HWD
  rw [← hmq] at e1 HOK2 HWD
  clear hok hok2 hwide hlo hhi hmq
  have HD := Lib.hid c4
  have HE := Lib.hid c5
  clear b1 b4 b5 c1 c2 c3 c4 c5 hm hn hq
  go_enter Try.func11, Try.ntmps11
  go_wp2_with fail
  go_at_call 43
  refine (awake15 _).mono ?_
  rintro e wb ⟨rfl, hb1⟩
  have g0 := box_below (heap_alloc_new w (.cells #[.int .u8 n0_0, .int .i64 n0_1, .int .i32 n0_2, .int .i32 n0_3, .int .u32 ((m : Nat) : Int), .int .u32 ((n : Nat) : Int)] 92)) hb1 (by simp)
  have hb1 := ((Below.refl w.heap.size w).alloc (Nat.le_refl _) (.cells #[.int .u8 n0_0, .int .i64 n0_1, .int .i32 n0_2, .int .i32 n0_3, .int .u32 ((m : Nat) : Int), .int .u32 ((n : Nat) : Int)] 92)).trans (hb1.mono (by simp))
  obtain ⟨g, hg⟩ : ∃ g, g = w.heap.size := ⟨_, rfl⟩
  rw [← hg] at g0 ⊢
  have HG := Lib.hid hg
  clear hg
  have a0 := cell_of_row _ _ 0 _ _ _ g0
  have a1 := cell_of_row _ _ 1 _ _ _ g0
  have a2 := cell_of_row _ _ 2 _ _ _ g0
  have a3 := cell_of_row _ _ 3 _ _ _ g0
  have a4 := cell_of_row _ _ 4 _ _ _ g0
  have a5 := cell_of_row _ _ 5 _ _ _ g0
  go_wp2_with fail
  go_at_call 45
  refine (rRightD n0_0 n0_1 n0_2 n0_3 m n _ _ rfl).mono ?_
  rintro e wc ⟨rfl, hb2⟩
  have g1 := box_below g0 hb2 (box_lt g0)
  clear a0 a1 a2 a3 a4 a5 g0
  cases hr : (Df.mk n0_0 n0_1 n0_2 n0_3 m n).right
  · have a0 := cell_of_row _ _ 0 _ _ _ g1
    have a1 := cell_of_row _ _ 1 _ _ _ g1
    have a2 := cell_of_row _ _ 2 _ _ _ g1
    have a3 := cell_of_row _ _ 3 _ _ _ g1
    have a4 := cell_of_row _ _ 4 _ _ _ g1
    have a5 := cell_of_row _ _ 5 _ _ _ g1
    go_wp2_with fail
    go_at_call 46
    refine (Look_at n0_0 n0_1 n0_2 n0_3 m n x4 x5 false 0 _ HOK.out HD.out.1 HD.out.2 HE.out.1 HE.out.2 (by rw [Df.look, if_pos (.inl hr)])).mono ?_
    rintro e wd ⟨rfl, hb3⟩
    have HB := Lib.hid (hb1.trans ((hb2.trans (hb3.mono hb2.size)).mono hb1.size))
    clear hb1 hb2 hb3 a0 a1 a2 a3 a4 a5 g1 hr
    go_wp2
    go_ret
    exact ⟨rfl, HB.out⟩
  have g2 := heap_alloc_new wc (.cells #[.int .u8 n0_0, .int .i64 n0_1, .int .i32 n0_2, .int .i32 n0_3, .int .u32 ((m : Nat) : Int), .int .u32 ((n : Nat) : Int)] 92)
  have g3 := box_below g1 ((Below.refl wc.heap.size wc).alloc (Nat.le_refl _) (.cells #[.int .u8 n0_0, .int .i64 n0_1, .int .i32 n0_2, .int .i32 n0_3, .int .u32 ((m : Nat) : Int), .int .u32 ((n : Nat) : Int)] 92)) (box_lt g1)
  have hb3 := (hb1.trans (hb2.mono hb1.size)).alloc (hb1.trans (hb2.mono hb1.size)).size (.cells #[.int .u8 n0_0, .int .i64 n0_1, .int .i32 n0_2, .int .i32 n0_3, .int .u32 ((m : Nat) : Int), .int .u32 ((n : Nat) : Int)] 92)
  have hfg : wc.heap.size ≠ g := Ne.symm (Nat.ne_of_lt (box_lt g1))
  have hsz := (hb1.trans (hb2.mono hb1.size)).size
  have a0 := cell_of_row _ _ 0 _ _ _ g1
  have a1 := cell_of_row _ _ 1 _ _ _ g1
  have a2 := cell_of_row _ _ 2 _ _ _ g1
  have a3 := cell_of_row _ _ 3 _ _ _ g1
  have a4 := cell_of_row _ _ 4 _ _ _ g1
  have a5 := cell_of_row _ _ 5 _ _ _ g1
  go_wp2_with fail
  obtain ⟨f, hf⟩ : ∃ f, f = wc.heap.size := ⟨_, rfl⟩
  obtain ⟨wx, hwx⟩ : ∃ wx, wx = wc.alloc (.cells #[.int .u8 n0_0, .int .i64 n0_1, .int .i32 n0_2, .int .i32 n0_3, .int .u32 ((m : Nat) : Int), .int .u32 ((n : Nat) : Int)] 92) := ⟨_, rfl⟩
  rw [← hwx] at g2 g3 hb3 ⊢
  rw [← hf] at g2 hfg hsz ⊢
  clear hwx hf a0 a1 a2 a3 a4 a5 hb1 hb2 g1
  have a0 := cell_of_row _ _ 0 _ _ _ g3
  have a1 := cell_of_row _ _ 1 _ _ _ g3
  have a2 := cell_of_row _ _ 2 _ _ _ g3
  have a3 := cell_of_row _ _ 3 _ _ _ g3
  have a4 := cell_of_row _ _ 4 _ _ _ g3
  have a5 := cell_of_row _ _ 5 _ _ _ g3
  have f2 := frozen_of_row _ f 2 _ _ g2
  have f3 := frozen_of_row _ f 3 _ _ g2
  have f4 := frozen_of_row _ f 4 _ _ g2
  have d2 := cell_of_row _ _ 2 _ _ _ g2
  have d3 := cell_of_row _ _ 3 _ _ _ g2
  have d4 := cell_of_row _ _ 4 _ _ _ g2
  go_region
  all_goals
    have h2 : ((((wx.setCell { block := f, off := 2 } (.int .i32 lo)).setCell { block := f, off := 3 } (.int .i32 hi)).setCell { block := f, off := 4 } (.int .u32 (mq : Int))).drew).heap[f]? = some (.cells #[.int .u8 n0_0, .int .i64 n0_1, .int .i32 lo, .int .i32 hi, .int .u32 ((mq : Nat) : Int), .int .u32 ((n : Nat) : Int)] 92 (0, 0)) :=
      heap_setCell_same _ f 4 _ _ _ (heap_setCell_same _ f 3 _ _ _ (heap_setCell_same wx f 2 _ _ _ g2))
    have h3 : ((((wx.setCell { block := f, off := 2 } (.int .i32 lo)).setCell { block := f, off := 3 } (.int .i32 hi)).setCell { block := f, off := 4 } (.int .u32 (mq : Int))).drew).heap[g]? = _ :=
      (heap_setCell_other _ ⟨f, 4, none⟩ g _ (Ne.symm hfg)).trans ((heap_setCell_other _ ⟨f, 3, none⟩ g _ (Ne.symm hfg)).trans ((heap_setCell_other _ ⟨f, 2, none⟩ g _ (Ne.symm hfg)).trans g3))
    have hb4 : Below w.heap.size w ((((wx.setCell { block := f, off := 2 } (.int .i32 lo)).setCell { block := f, off := 3 } (.int .i32 hi)).setCell { block := f, off := 4 } (.int .u32 (mq : Int))).drew) :=
      (((hb3.setCell (p := ⟨f, 2, none⟩) hsz _).setCell (p := ⟨f, 3, none⟩) hsz _).setCell (p := ⟨f, 4, none⟩) hsz _).drew
    have HS := Lib.hid (CkSt.mk hb4 h3 h2)
    clear h2 h3 hb4 hb3 g2 g3 f2 f3 f4 d2 d3 d4 a0 a1 a2 a3 a4 a5 hmn hmx e1
    go_wp2_with fail
    obtain ⟨wy, hwy⟩ : ∃ wy, wy = ((((wx.setCell { block := f, off := 2 } (.int .i32 lo)).setCell { block := f, off := 3 } (.int .i32 hi)).setCell { block := f, off := 4 } (.int .u32 (mq : Int))).drew) := ⟨_, rfl⟩
    rw [← hwy] at HS ⊢
    clear hwy
    have hgl := box_lt HS.out.ba
    have hfl := box_lt HS.out.bb
    have a0 := cell_of_row _ _ 0 _ _ _ HS.out.ba
    have a1 := cell_of_row _ _ 1 _ _ _ HS.out.ba
    have a2 := cell_of_row _ _ 2 _ _ _ HS.out.ba
    have a3 := cell_of_row _ _ 3 _ _ _ HS.out.ba
    have a4 := cell_of_row _ _ 4 _ _ _ HS.out.ba
    have a5 := cell_of_row _ _ 5 _ _ _ HS.out.ba
    have d0 := cell_of_row _ _ 0 _ _ _ HS.out.bb
    have d1 := cell_of_row _ _ 1 _ _ _ HS.out.bb
    have d2 := cell_of_row _ _ 2 _ _ _ HS.out.bb
    have d3 := cell_of_row _ _ 3 _ _ _ HS.out.bb
    have d4 := cell_of_row _ _ 4 _ _ _ HS.out.bb
    have d5 := cell_of_row _ _ 5 _ _ _ HS.out.bb
    obtain ⟨va, hva⟩ : ∃ v, (Df.mk n0_0 n0_1 n0_2 n0_3 m n).look x4 x5 false = v := ⟨_, rfl⟩
    obtain ⟨vb, hvb⟩ : ∃ v, (Df.mk n0_0 n0_1 lo hi mq n).look x4 x5 false = v := ⟨_, rfl⟩
    have HV := Lib.hid (And.intro hva hvb)
    have hwd := HWD.out hr
    rw [hva, hvb] at hwd
    have HW2 := Lib.hid hwd
    clear hva hvb hwd hr
    obtain ⟨I, W, hne, hWI, hIW⟩ := Go.Mix.family (fun v => Below wy.heap.size wy v) (Below.refl _ _)
    have HJ := Lib.hid hIW
    have HW := Lib.hid hWI
    clear hWI hIW
    refine Go.Flo.wp_region (fun w' => ∃ i, w' = W i) 10 [Go.Flo.Spec.is (.int .u8 va), Go.Flo.Spec.is (.int .u8 vb)] (by kernel_rfl) (by kernel_rfl) (by decide) (by rintro _ w' ⟨i, rfl⟩ hb; exact HJ.out _ ((HW.out i).trans (hb.mono (HW.out i).size))) (HJ.out _ (Below.refl _ _).drew) ?_
    simp only [Go.Flo.pair, Go.Mix.calm, List.take, List.drop, if_true, Bool.false_eq_true, if_false, Nat.reduceAdd, Nat.reduceSub]
    have k0 : ∀ i, (W i).cell? ⟨g, 0, none⟩ = some (.int .u8 n0_0) := fun i => ((HW.out i).cell (p := ⟨g, 0, none⟩) hgl).trans a0
    have k1 : ∀ i, (W i).cell? ⟨g, 1, none⟩ = some (.int .i64 n0_1) := fun i => ((HW.out i).cell (p := ⟨g, 1, none⟩) hgl).trans a1
    have k2 : ∀ i, (W i).cell? ⟨g, 2, none⟩ = some (.int .i32 n0_2) := fun i => ((HW.out i).cell (p := ⟨g, 2, none⟩) hgl).trans a2
    have k3 : ∀ i, (W i).cell? ⟨g, 3, none⟩ = some (.int .i32 n0_3) := fun i => ((HW.out i).cell (p := ⟨g, 3, none⟩) hgl).trans a3
    have k4 : ∀ i, (W i).cell? ⟨g, 4, none⟩ = some (.int .u32 (m : Int)) := fun i => ((HW.out i).cell (p := ⟨g, 4, none⟩) hgl).trans a4
    have k5 : ∀ i, (W i).cell? ⟨g, 5, none⟩ = some (.int .u32 (n : Int)) := fun i => ((HW.out i).cell (p := ⟨g, 5, none⟩) hgl).trans a5
    have j0 : ∀ i, (W i).cell? ⟨f, 0, none⟩ = some (.int .u8 n0_0) := fun i => ((HW.out i).cell (p := ⟨f, 0, none⟩) hfl).trans d0
    have j1 : ∀ i, (W i).cell? ⟨f, 1, none⟩ = some (.int .i64 n0_1) := fun i => ((HW.out i).cell (p := ⟨f, 1, none⟩) hfl).trans d1
    have j2 : ∀ i, (W i).cell? ⟨f, 2, none⟩ = some (.int .i32 lo) := fun i => ((HW.out i).cell (p := ⟨f, 2, none⟩) hfl).trans d2
    have j3 : ∀ i, (W i).cell? ⟨f, 3, none⟩ = some (.int .i32 hi) := fun i => ((HW.out i).cell (p := ⟨f, 3, none⟩) hfl).trans d3
    have j4 : ∀ i, (W i).cell? ⟨f, 4, none⟩ = some (.int .u32 (mq : Int)) := fun i => ((HW.out i).cell (p := ⟨f, 4, none⟩) hfl).trans d4
    have j5 : ∀ i, (W i).cell? ⟨f, 5, none⟩ = some (.int .u32 (n : Int)) := fun i => ((HW.out i).cell (p := ⟨f, 5, none⟩) hfl).trans d5
    (repeat (first | (refine Go.Flo.fw_calm rfl ?_ (fun K hK => ?_); (first | exact Go.Mix.wanted_none rfl | exact Go.Mix.wanted_tt rfl rfl rfl | exact Go.Mix.wanted_ff rfl rfl rfl); go_big_quiet_op; refine hK _ ?_; clear hK K) | (refine Go.Flo.fw_skip ?_ (fun K hK => ?_); (first | exact Go.Mix.wanted_tf rfl rfl rfl | exact Go.Mix.wanted_ft rfl rfl rfl); go_simp; refine hK _ ?_; clear hK K) | (refine Go.Flo.fw_any rfl ?_ (fun K hK => ?_); (first | exact Go.Mix.wanted_none rfl | exact Go.Mix.wanted_tt rfl rfl rfl | exact Go.Mix.wanted_ff rfl rfl rfl); go_simp; (try (go_ints; try go_simp)); refine hK _ ?_; clear hK K)))
    refine Go.Flo.fw_loud rfl ?_ rfl (by simp) (fun wv hwv hav K hK => ?_) (fun v hv K hK => ?_)
    · (first | exact Go.Mix.wanted_none rfl | exact Go.Mix.wanted_tt rfl rfl rfl | exact Go.Mix.wanted_ff rfl rfl rfl)
    · obtain ⟨iv, rfl⟩ := hwv
      have hbv := HW.out iv
      (first | go_big_op | go_simp)
      go_at_call 46
      with_reducible refine (Look_at n0_0 n0_1 n0_2 n0_3 m n x4 x5 false va _ HOK.out HD.out.1 HD.out.2 HE.out.1 HE.out.2 HV.out.1).mono ?_
      rintro e w' ⟨rfl, hb⟩
      exact hK _ _ (Go.Flo.owes_is _ rfl hb)
    obtain rfl := hv.is
    go_simp
    refine hK _ ?_
    clear hK K hv
    (repeat (first | (refine Go.Flo.fw_calm rfl ?_ (fun K hK => ?_); (first | exact Go.Mix.wanted_none rfl | exact Go.Mix.wanted_tt rfl rfl rfl | exact Go.Mix.wanted_ff rfl rfl rfl); go_big_quiet_op; refine hK _ ?_; clear hK K) | (refine Go.Flo.fw_skip ?_ (fun K hK => ?_); (first | exact Go.Mix.wanted_tf rfl rfl rfl | exact Go.Mix.wanted_ft rfl rfl rfl); go_simp; refine hK _ ?_; clear hK K) | (refine Go.Flo.fw_any rfl ?_ (fun K hK => ?_); (first | exact Go.Mix.wanted_none rfl | exact Go.Mix.wanted_tt rfl rfl rfl | exact Go.Mix.wanted_ff rfl rfl rfl); go_simp; (try (go_ints; try go_simp)); refine hK _ ?_; clear hK K)))
    refine Go.Flo.fw_loud rfl ?_ rfl (by simp) (fun wv hwv hav K hK => ?_) (fun v hv K hK => ?_)
    · (first | exact Go.Mix.wanted_none rfl | exact Go.Mix.wanted_tt rfl rfl rfl | exact Go.Mix.wanted_ff rfl rfl rfl)
    · obtain ⟨iv, rfl⟩ := hwv
      have hbv := HW.out iv
      (first | go_big_op | go_simp)
      go_at_call 46
      with_reducible refine (Look_at n0_0 n0_1 lo hi mq n x4 x5 false vb _ HOK2.out HD.out.1 HD.out.2 HE.out.1 HE.out.2 HV.out.2).mono ?_
      rintro e w' ⟨rfl, hb⟩
      exact hK _ _ (Go.Flo.owes_is _ rfl hb)
    obtain rfl := hv.is
    go_simp
    refine hK _ ?_
    clear hK K hv
    (repeat (first | (refine Go.Flo.fw_calm rfl ?_ (fun K hK => ?_); (first | exact Go.Mix.wanted_none rfl | exact Go.Mix.wanted_tt rfl rfl rfl | exact Go.Mix.wanted_ff rfl rfl rfl); go_big_quiet_op; refine hK _ ?_; clear hK K) | (refine Go.Flo.fw_skip ?_ (fun K hK => ?_); (first | exact Go.Mix.wanted_tf rfl rfl rfl | exact Go.Mix.wanted_ft rfl rfl rfl); go_simp; refine hK _ ?_; clear hK K) | (refine Go.Flo.fw_any rfl ?_ (fun K hK => ?_); (first | exact Go.Mix.wanted_none rfl | exact Go.Mix.wanted_tt rfl rfl rfl | exact Go.Mix.wanted_ff rfl rfl rfl); go_simp; (try (go_ints; try go_simp)); refine hK _ ?_; clear hK K)))
    refine Go.Flo.fw_nil ?_
    intro wz hwwz hfwz huwz
    refine Go.Flo.tw_nil ?_
    obtain ⟨iend, hiend⟩ := hwwz
    have hbwz := HW.out iend
    rw [← hiend] at hbwz
    clear hiend iend huwz
    have HB := Lib.hid (HS.out.be.trans (hbwz.mono HS.out.be.size))
    clear hfwz HJ HW hne k0 k1 k2 k3 k4 k5 a0 a1 a2 a3 a4 a5 hbwz j0 j1 j2 j3 j4 j5 d0 d1 d2 d3 d4 d5
    clear W I
    go_wp2_with fail
    cases hv : vio va
    · go_at_call 48
      refine (Vio_at va false _ hv).mono ?_
      rintro e w' ⟨rfl, rfl⟩
      go_wp2_with fail
      go_at_call 48
      refine (Vio_at vb false _ (HW2.out hv)).mono ?_
      rintro e w' ⟨rfl, rfl⟩
      go_wp2
      go_ret
      exact ⟨rfl, HB.out⟩
    · go_at_call 48
      refine (Vio_at va true _ hv).mono ?_
      rintro e w' ⟨rfl, rfl⟩
      go_wp2
      go_ret
      exact ⟨rfl, HB.out⟩
end Go.Proofs.Ytbomkneajmgckaa
