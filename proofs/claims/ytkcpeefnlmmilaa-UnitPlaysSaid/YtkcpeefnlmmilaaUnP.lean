/- Layer 13: a unit that may be is right; scripts. -/
import Derived.Test.YtkcpeefnlmmilaaLaw13
import Derived.Test.YtkcpeefnlmmilaaFlat
import Derived.Deep.CutBlock
import Derived.Deep.DeepCutAuto
import Derived.Laws.StructEq
namespace Go.Proofs.Ytkcpeefnlmmilaa
open Go.RowKit Go.Own
set_option linter.unusedVariables false
set_option linter.unusedSimpArgs false
theorem heap2s (w : World) (A B : Obj) : ((w.alloc A).alloc B).heap[w.heap.size]? = some A ∧ ((w.alloc A).alloc B).heap[w.heap.size + 1]? = some B :=
  ⟨(Below.heap_alloc _ B _ (by simp)).trans (heap_alloc_new w A), heap_alloc2_new w A B⟩
set_option maxRecDepth 100000 in
set_option maxHeartbeats 4000000 in
theorem Right_yes (s l b wt tol : Int) (w : World) (h : Un.Right ⟨s, l, b⟩ wt tol) (w1 : wt ≤ 255) (t1 : tol ≤ 255) : Calls Try.prog 57 #[.agg #[.int .u8 s, .int .u8 l, .int .u8 b], .agg #[.int .u8 wt, .int .u8 tol]] w fun e w' => e = .returned (.bool true) ∧ Below w.heap.size w w' := by
  have ht := h.tidy
  obtain ⟨hst, hl, hb, l0, l1, b0, b1⟩ := h
  obtain ⟨e1, e2, e3⟩ := Un.inj ((Un.tidy_eq s l b).symm.trans ht)
  have HLB := Lib.hid (And.intro e2 e3)
  simp only at hst l0 l1 b0 b1
  have hs3 : decide (s ≤ 3) = true := by simp; omega
  have hlw : decide (l ≤ wt) = true := by simpa using l1
  have hbt : decide (b ≤ tol) = true := by simpa using b1
  have hb0 : Below w.heap.size w ((w.alloc (.cells #[.int .u8 s, .int .u8 l, .int .u8 b] 110)).alloc (.cells #[.int .u8 wt, .int .u8 tol] 107)) := by repeat' (first | (with_reducible exact Below.refl _ _) | (with_reducible assumption) | (with_reducible refine Below.setCell ?_ ?_ _) | (with_reducible refine Below.alloc ?_ ?_ _) | (with_reducible refine Below.drew ?_) | (with_reducible refine Below.drawsN ?_ _) | go_size)
  have HB0 := Lib.hid hb0
  clear e1 e2 e3 ht hst hl hb hb0 l0 l1 b0 b1
  go_enter Try.func57, Try.ntmps57
  go_wp2_with fail
  obtain ⟨g1, g2⟩ := heap2s w (.cells #[.int .u8 s, .int .u8 l, .int .u8 b] 110) (.cells #[.int .u8 wt, .int .u8 tol] 107)
  obtain ⟨w3, hw3⟩ : ∃ w3, w3 = ((w.alloc (.cells #[.int .u8 s, .int .u8 l, .int .u8 b] 110)).alloc (.cells #[.int .u8 wt, .int .u8 tol] 107)) := ⟨_, rfl⟩
  rw [← hw3] at g1 g2 HB0 ⊢
  obtain ⟨gu, hgu'⟩ : ∃ g, g = w.heap.size := ⟨_, rfl⟩
  obtain ⟨gr, hgr'⟩ : ∃ g, g = gu + 1 := ⟨_, rfl⟩
  have g1' := g1
  have g2' := g2
  rw [← hgu'] at g1' g2' ⊢
  rw [← hgr'] at g2' ⊢
  clear g1 g2 hw3 hgu' hgr'
  have hgu := box_lt g1'
  have hgr := box_lt g2'
  have q0 := cell_of_row _ _ 0 _ _ _ g1'
  have q1 := cell_of_row _ _ 1 _ _ _ g1'
  have q2 := cell_of_row _ _ 2 _ _ _ g1'
  have r0 := cell_of_row _ _ 0 _ _ _ g2'
  have r1 := cell_of_row _ _ 1 _ _ _ g2'
  clear g1' g2'
  obtain ⟨I, W, hne, hWI, hIW⟩ := Go.Mix.family (fun v => Below w3.heap.size w3 v) (Below.refl _ _)
  have HJ := Lib.hid hIW
  have HW := Lib.hid hWI
  clear hWI hIW
  refine Go.Flo.wp_region (fun w' => ∃ i, w' = W i) 24 [Go.Flo.Spec.is (.agg #[.int .u8 s, .int .u8 l, .int .u8 b])] (by kernel_rfl) (by kernel_rfl) (by decide) (by rintro _ w' ⟨i, rfl⟩ hb; exact HJ.out _ ((HW.out i).trans (hb.mono (HW.out i).size))) (HJ.out _ (Below.refl _ _).drew) ?_
  simp only [Go.Flo.pair, Go.Mix.calm, List.take, List.drop, if_true, Bool.false_eq_true, if_false, Nat.reduceAdd, Nat.reduceSub]
  have k0 : ∀ i, (W i).cell? ⟨gu, 0, none⟩ = some (.int .u8 s) := fun i => ((HW.out i).cell (p := ⟨gu, 0, none⟩) hgu).trans q0
  have k1 : ∀ i, (W i).cell? ⟨gu, 1, none⟩ = some (.int .u8 l) := fun i => ((HW.out i).cell (p := ⟨gu, 1, none⟩) hgu).trans q1
  have k2 : ∀ i, (W i).cell? ⟨gu, 2, none⟩ = some (.int .u8 b) := fun i => ((HW.out i).cell (p := ⟨gu, 2, none⟩) hgu).trans q2
  have k3 : ∀ i, (W i).cell? ⟨gr, 0, none⟩ = some (.int .u8 wt) := fun i => ((HW.out i).cell (p := ⟨gr, 0, none⟩) hgr).trans r0
  have k4 : ∀ i, (W i).cell? ⟨gr, 1, none⟩ = some (.int .u8 tol) := fun i => ((HW.out i).cell (p := ⟨gr, 1, none⟩) hgr).trans r1
  (repeat (first | (refine Go.Flo.fw_calm rfl ?_ (fun K hK => ?_); (first | exact Go.Mix.wanted_none rfl | exact Go.Mix.wanted_tt rfl rfl rfl | exact Go.Mix.wanted_ff rfl rfl rfl); go_big_quiet_op; refine hK _ ?_; clear hK K) | (refine Go.Flo.fw_skip ?_ (fun K hK => ?_); (first | exact Go.Mix.wanted_tf rfl rfl rfl | exact Go.Mix.wanted_ft rfl rfl rfl); go_simp; refine hK _ ?_; clear hK K) | (refine Go.Flo.fw_any rfl ?_ (fun K hK => ?_); (first | exact Go.Mix.wanted_none rfl | exact Go.Mix.wanted_tt rfl rfl rfl | exact Go.Mix.wanted_ff rfl rfl rfl); go_simp; (try (go_ints; try go_simp)); refine hK _ ?_; clear hK K)))
  refine Go.Flo.fw_loud rfl ?_ rfl (by simp) (fun wv hwv hav K hK => ?_) (fun v hv K hK => ?_)
  · (first | exact Go.Mix.wanted_none rfl | exact Go.Mix.wanted_tt rfl rfl rfl | exact Go.Mix.wanted_ff rfl rfl rfl)
  · obtain ⟨iv, rfl⟩ := hwv
    have hbv := HW.out iv
    (first | go_big_op | go_simp)
    go_at_call 103
    refine (tidy_at s l b l b _ HLB.out.1 HLB.out.2).mono ?_
    rintro e w' ⟨rfl, hb⟩
    exact hK _ _ (Go.Flo.owes_is _ rfl hb)
  obtain rfl := hv.is
  go_simp
  refine hK _ ?_
  clear hK K hv
  (repeat (first | (refine Go.Flo.fw_calm rfl ?_ (fun K hK => ?_); (first | exact Go.Mix.wanted_none rfl | exact Go.Mix.wanted_tt rfl rfl rfl | exact Go.Mix.wanted_ff rfl rfl rfl); go_big_quiet_op; refine hK _ ?_; clear hK K) | (refine Go.Flo.fw_skip ?_ (fun K hK => ?_); (first | exact Go.Mix.wanted_tf rfl rfl rfl | exact Go.Mix.wanted_ft rfl rfl rfl); go_simp; refine hK _ ?_; clear hK K) | (refine Go.Flo.fw_any rfl ?_ (fun K hK => ?_); (first | exact Go.Mix.wanted_none rfl | exact Go.Mix.wanted_tt rfl rfl rfl | exact Go.Mix.wanted_ff rfl rfl rfl); go_simp; (try (go_ints; try go_simp)); refine hK _ ?_; clear hK K)))
  refine Go.Flo.fw_nil ?_
  intro w4 hww4 hfw4 huw4
  refine Go.Flo.tw_nil ?_
  obtain ⟨iend, hiend⟩ := hww4
  have hbw4 := HW.out iend
  rw [← hiend] at hbw4
  clear hiend iend huw4
  go_wp2
  go_ret
  exact ⟨rfl, HB0.out.trans (hbw4.mono HB0.out.size)⟩
end Go.Proofs.Ytkcpeefnlmmilaa
