/- Layer 13: units within their deadlines. -/
import Derived.Test.YtkcpeefnlmmilaaLaw13
import Derived.Test.YtkcpeefnlmmilaaFlat
namespace Go.Proofs.Ytkcpeefnlmmilaa
open Go.RowKit Go.Own
set_option linter.unusedVariables false
set_option linter.unusedSimpArgs false
/-- Where the first unit stands behind k cycles. -/
def UB (wt : Int) (k : Nat) (s l b : Int) : Prop := (k : Int) ≤ wt + 1 ∧ ((s = 1 ∧ l = wt - k ∧ b = 0 ∧ (k : Int) ≤ wt) ∨ s = 2 ∨ s = 3)
theorem UB.next {wt tol : Int} {k : Nat} {s l b : Int} (ack well : Bool) (h : (k : Int) ≤ wt) (e : Un.mk s l b = uStep ⟨1, wt - k, 0⟩ ack well tol) : UB wt (k + 1) s l b := by
  unfold uStep at e
  rw [if_pos rfl] at e
  refine ⟨by omega, ?_⟩
  split at e
  · exact .inr (.inl (Un.inj e).1)
  split at e
  · exact .inr (.inr (Un.inj e).1)
  · rename_i h2
    obtain ⟨rfl, rfl, rfl⟩ := Un.inj e
    simp only at h2
    refine .inl ⟨rfl, ?_, rfl, ?_⟩
    · show wt - (k : Int) - 1 = wt - ((k + 1 : Nat) : Int)
      omega
    · omega
set_option maxRecDepth 100000 in
set_option maxHeartbeats 8000000 in
theorem walk_UnitBounds (n0_0 n0_1 : Int) (a1 : Option Addr) (len1 cap1 : Nat) (a2 : Int) (w : World) (w0_0 : (Lit.int .u8 n0_0).wf = true) (w0_1 : (Lit.int .u8 n0_1).wf = true) (w1 : IsFlat [.bool] w a1 len1 cap1) (w2 : (Lit.int .u8 a2).wf = true) :
    Calls Try.prog 10 #[.agg #[.int .u8 n0_0, .int .u8 n0_1], .slice a1 len1 cap1, .int .u8 a2] w fun e w' => e = .returned (.bool true) ∧ Below w.heap.size w w' := by
  obtain ⟨p0, p1⟩ := bounds_u8 w0_0
  obtain ⟨t0, t1⟩ := bounds_u8 w0_1
  obtain ⟨m0, m1⟩ := bounds_u8 w2
  obtain ⟨c0, c1, _, cx⟩ := w1
  have CX := Lib.hid cx
  unfold maxLen at c1
  clear w0_0 w0_1 w2 cx
  have hb0 : Below w.heap.size w (w.alloc (.cells #[.int .u8 n0_0, .int .u8 n0_1] 107)) := (Below.refl _ _).alloc (Nat.le_refl _) _
  have g0 := heap_alloc_new w (.cells #[.int .u8 n0_0, .int .u8 n0_1] 107)
  go_enter Try.func10, Try.ntmps10
  go_wp2_with fail
  obtain ⟨gr, hgr⟩ : ∃ g, g = w.heap.size := ⟨_, rfl⟩
  obtain ⟨wa, hwa⟩ : ∃ wa, wa = w.alloc (.cells #[.int .u8 n0_0, .int .u8 n0_1] 107) := ⟨_, rfl⟩
  rw [← hwa] at hb0 g0 ⊢
  rw [← hgr] at g0
  go_at_call 52
  refine (awake13 _).mono ?_
  rintro e wb ⟨rfl, hb1⟩
  have g1 := box_below g0 hb1 (box_lt g0)
  have HB1 := Lib.hid (hb0.trans (hb1.mono hb0.size))
  rw [← hgr]
  have q0 := cell_of_row _ _ 0 _ _ _ g1
  have q1 := cell_of_row _ _ 1 _ _ _ g1
  clear hb0 g0 hwa hgr hb1
  go_wp2_with fail
  go_at_call 53
  refine (OrderNew_at 3 0 0 n0_0 n0_1 _ (.inr rfl)).mono ?_
  rintro e wc ⟨rfl, hb2⟩
  have g2 := box_below g1 hb2 (box_lt g1)
  have HS := Lib.hid (USt.new (HB1.out.trans (hb2.mono HB1.out.size)) g2 1 n0_0 0)
  clear g1 q0 q1 hb2 g2 HB1
  go_wp2_with fail
  obtain ⟨gu, hgu⟩ : ∃ g, g = wc.heap.size := ⟨_, rfl⟩
  obtain ⟨wd, hwd⟩ : ∃ wd, wd = wc.alloc (.cells #[.int .u8 1, .int .u8 n0_0, .int .u8 0] 110) := ⟨_, rfl⟩
  rw [← hgu] at HS ⊢
  rw [← hwd] at HS ⊢
  clear hgu hwd
  go_loopw [9] (fun i wr => ∃ (k : Nat) (s l b : Int), i = .int .i64 k ∧ USt w wr gr gu n0_0 n0_1 s l b ∧ UB n0_0 k s l b) (fun i _ => 257 - (intOf i).toNat)
  case atStart => exact ⟨0, 1, n0_0, 0, rfl, HS.out, by omega, .inl ⟨rfl, by omega, rfl, by omega⟩⟩
  case round =>
    obtain ⟨k, s, l, b, rfl, hS, hk, hu⟩ := hrel
    clear HS
    rcases hu with ⟨rfl, rfl, rfl, hlt⟩ | hu
    · have HS := Lib.hid hS
      have r0 := cell_of_row _ _ 0 _ _ _ hS.br
      have r1 := cell_of_row _ _ 1 _ _ _ hS.br
      have q0 := cell_of_row _ _ 0 _ _ _ hS.bu
      have q1 := cell_of_row _ _ 1 _ _ _ hS.bu
      have q2 := cell_of_row _ _ 2 _ _ _ hS.bu
      have hgr := box_lt hS.br
      have hgu := box_lt hS.bu
      have hww := hS.be.size
      clear hS hk
      have hk1 : (k : Int) ≤ 255 := by omega
      obtain ⟨y, hy⟩ : ∃ y, y = n0_0 - (k : Int) := ⟨_, rfl⟩
      have HY := Lib.hid hy
      rw [← hy] at HS q1
      have y0 : 0 ≤ y := by omega
      have y1 : y ≤ 255 := by omega
      clear hy
      go_wp2_with fail
      by_cases hkl : k < len1
      · obtain ⟨bb, off, rfl, hbb, hel⟩ := CX.out (by omega)
        obtain ⟨cs, hfit, hcell⟩ := hel k hkl
        match cs, hfit with
        | [v], ⟨⟨t, hv⟩, _⟩ =>
        subst hv
        have hc := (HS.out.be.cell (p := ⟨bb, off + k, none⟩) hbb).trans (by simpa using hcell 0 _ rfl)
        have hbw := Nat.lt_of_lt_of_le hbb hww
        have hcmp : decide ((k : Int) < (len1 : Int)) = true := by simpa using hkl
        clear hel hfit hcell
        obtain ⟨s', l', b', n', hs', hn'⟩ : ∃ s' l' b' n' : Int, Un.mk s' l' b' = uStep ⟨1, y, 0⟩ t true n0_1 ∧ n' = uBec ⟨1, y, 0⟩ t true n0_1 := ⟨_, _, _, _, rfl, rfl⟩
        have HU := Lib.hid (And.intro hs' hn')
        clear hs' hn'
        obtain ⟨I, W, hne, hWI, hIW⟩ := Go.Mix.family (fun v => Below wr.heap.size wr v) (Below.refl _ _)
        have HJ := Lib.hid hIW
        have HW := Lib.hid hWI
        clear hWI hIW
        refine Go.Flo2.wp_region (fun w' => ∃ i, w' = W i) 13 [Go.Flo.Spec.is (.tuple #[.agg #[.int .u8 s', .int .u8 l', .int .u8 b'], .int .u8 n'])] (by kernel_rfl) (by kernel_rfl) (by decide) (by rintro _ w' ⟨i, rfl⟩ hb; exact HJ.out _ ((HW.out i).trans (hb.mono (HW.out i).size))) (HJ.out _ (Below.refl _ _).drew) ?_
        simp only [Go.Flo.pair, Go.Mix.calm, List.take, List.drop, if_true, Bool.false_eq_true, if_false, Nat.reduceAdd, Nat.reduceSub]
        have k0 : ∀ i, (W i).cell? ⟨gu, 0, none⟩ = some (.int .u8 1) := fun i => ((HW.out i).cell (p := ⟨gu, 0, none⟩) hgu).trans q0
        have k1 : ∀ i, (W i).cell? ⟨gu, 1, none⟩ = some (.int .u8 y) := fun i => ((HW.out i).cell (p := ⟨gu, 1, none⟩) hgu).trans q1
        have k2 : ∀ i, (W i).cell? ⟨gu, 2, none⟩ = some (.int .u8 0) := fun i => ((HW.out i).cell (p := ⟨gu, 2, none⟩) hgu).trans q2
        have k3 : ∀ i, (W i).cell? ⟨gr, 0, none⟩ = some (.int .u8 n0_0) := fun i => ((HW.out i).cell (p := ⟨gr, 0, none⟩) hgr).trans r0
        have k4 : ∀ i, (W i).cell? ⟨gr, 1, none⟩ = some (.int .u8 n0_1) := fun i => ((HW.out i).cell (p := ⟨gr, 1, none⟩) hgr).trans r1
        have k5 : ∀ i, (W i).cell? ⟨bb, off + k, none⟩ = some (.bool t) := fun i => ((HW.out i).cell (p := ⟨bb, off + k, none⟩) hbw).trans hc
        (repeat (first | (refine Go.Flo.fw_calm rfl ?_ (fun K hK => ?_); (first | exact Go.Mix.wanted_none rfl | exact Go.Mix.wanted_tt rfl rfl rfl | exact Go.Mix.wanted_ff rfl rfl rfl); go_big_quiet_op; refine hK _ ?_; clear hK K) | (refine Go.Flo.fw_skip ?_ (fun K hK => ?_); (first | exact Go.Mix.wanted_tf rfl rfl rfl | exact Go.Mix.wanted_ft rfl rfl rfl); go_simp; refine hK _ ?_; clear hK K) | (refine Go.Flo.fw_any rfl ?_ (fun K hK => ?_); (first | exact Go.Mix.wanted_none rfl | exact Go.Mix.wanted_tt rfl rfl rfl | exact Go.Mix.wanted_ff rfl rfl rfl); go_simp; (try (go_ints; try go_simp)); refine hK _ ?_; clear hK K)))
        refine Go.Flo.fw_loud rfl ?_ rfl (by simp) (fun wv hwv hav K hK => ?_) (fun v hv K hK => ?_)
        · (first | exact Go.Mix.wanted_none rfl | exact Go.Mix.wanted_tt rfl rfl rfl | exact Go.Mix.wanted_ff rfl rfl rfl)
        · obtain ⟨iv, rfl⟩ := hwv
          have hbv := HW.out iv
          (first | go_big_op | go_simp)
          go_at_call 55
          refine (Step_det 1 y 0 t true n0_0 n0_1 s' l' b' n' _ y0 y1 (by decide) (by decide) t1 HU.out.1 HU.out.2).mono ?_
          rintro e w' ⟨rfl, hb⟩
          exact hK _ _ (Go.Flo.owes_is _ rfl hb)
        obtain rfl := hv.is
        go_simp
        refine hK _ ?_
        clear hK K hv
        (repeat (first | (refine Go.Flo.fw_calm rfl ?_ (fun K hK => ?_); (first | exact Go.Mix.wanted_none rfl | exact Go.Mix.wanted_tt rfl rfl rfl | exact Go.Mix.wanted_ff rfl rfl rfl); go_big_quiet_op; refine hK _ ?_; clear hK K) | (refine Go.Flo.fw_skip ?_ (fun K hK => ?_); (first | exact Go.Mix.wanted_tf rfl rfl rfl | exact Go.Mix.wanted_ft rfl rfl rfl); go_simp; refine hK _ ?_; clear hK K) | (refine Go.Flo.fw_any rfl ?_ (fun K hK => ?_); (first | exact Go.Mix.wanted_none rfl | exact Go.Mix.wanted_tt rfl rfl rfl | exact Go.Mix.wanted_ff rfl rfl rfl); go_simp; (try (go_ints; try go_simp)); refine hK _ ?_; clear hK K)))
        refine Go.Flo.fw_nil ?_
        intro w2 hww2 hfw2 huw2
        obtain ⟨iend, hiend⟩ := hww2
        have hbw2 := HW.out iend
        rw [← hiend] at hbw2
        clear hiend iend huw2
        have HS2 := Lib.hid (HS.out.step hbw2 (Nat.le_refl _))
        have g4 := HS2.out.bu
        clear hfw2 HJ HW hne k0 k1 k2 k3 k4 k5 hbw2 r0 r1 q0 q1 q2 hc hbw hcmp
        clear W I
        refine ⟨fun _ => True, trivial, ?_⟩

        (repeat (first | (refine Go.Mix.walk_calm rfl ?_ (fun K hK => ?_); (first | exact Go.Mix.wanted_none rfl | exact Go.Mix.wanted_tt rfl rfl rfl | exact Go.Mix.wanted_ff rfl rfl rfl); go_big_quiet_op; refine hK _ ?_; clear hK K) | (refine Go.Mix.walk_skip ?_ (fun K hK => ?_); (first | exact Go.Mix.wanted_tf rfl rfl rfl | exact Go.Mix.wanted_ft rfl rfl rfl); go_simp; refine hK _ ?_; clear hK K) | (refine Go.Mix.walk_loud rfl ?_ (fun K hK => ?_); (first | exact Go.Mix.wanted_none rfl | exact Go.Mix.wanted_tt rfl rfl rfl | exact Go.Mix.wanted_ff rfl rfl rfl); (first | go_big_op | go_simp); (first | (refine hK _ _ trivial ?_; clear hK K) | (fail; (try dsimp only); refine hK _ _ trivial ?_; clear hK K))) | (refine Go.Mix.walk_step (fun K hK => ?_); go_simp; (try (go_ints; try go_simp)); refine hK _ _ ?_; clear hK K)))
        (refine Go.Mix.walk_loud rfl ?_ (fun K hK => ?_); (first | exact Go.Mix.wanted_none rfl | exact Go.Mix.wanted_tt rfl rfl rfl | exact Go.Mix.wanted_ff rfl rfl rfl); refine wp_store_row 110 _ _ rfl _ #[.int .u8 s', .int .u8 l', .int .u8 b'] rfl rfl 110 _ g4 size_un rfl (by simp [Value.oneCell']) (hK _ _ trivial ?_); clear hK K)
        (repeat (first | (refine Go.Mix.walk_calm rfl ?_ (fun K hK => ?_); (first | exact Go.Mix.wanted_none rfl | exact Go.Mix.wanted_tt rfl rfl rfl | exact Go.Mix.wanted_ff rfl rfl rfl); go_big_quiet_op; refine hK _ ?_; clear hK K) | (refine Go.Mix.walk_skip ?_ (fun K hK => ?_); (first | exact Go.Mix.wanted_tf rfl rfl rfl | exact Go.Mix.wanted_ft rfl rfl rfl); go_simp; refine hK _ ?_; clear hK K) | (refine Go.Mix.walk_loud rfl ?_ (fun K hK => ?_); (first | exact Go.Mix.wanted_none rfl | exact Go.Mix.wanted_tt rfl rfl rfl | exact Go.Mix.wanted_ff rfl rfl rfl); (first | go_big_op | go_simp); (first | (refine hK _ _ trivial ?_; clear hK K) | (fail; (try dsimp only); refine hK _ _ trivial ?_; clear hK K))) | (refine Go.Mix.walk_step (fun K hK => ?_); go_simp; (try (go_ints; try go_simp)); refine hK _ _ ?_; clear hK K)))
        refine Go.Mix.walk_nil ?_
        have HS3 := Lib.hid (HS2.out.put s' l' b')
        go_wp2_with fail
        go_roundw
        case rel => exact ⟨k + 1, s', l', b', by go_num, HS3.out, UB.next t true hlt (by rw [← HY.out]; exact HU.out.1)⟩
        case measure => simp [intOf]; omega
      · have hcmp : decide ((k : Int) < (len1 : Int)) = false := by simpa using hkl
        obtain ⟨s', l', b', n', hs', hn'⟩ : ∃ s' l' b' n' : Int, Un.mk s' l' b' = uStep ⟨1, y, 0⟩ false true n0_1 ∧ n' = uBec ⟨1, y, 0⟩ false true n0_1 := ⟨_, _, _, _, rfl, rfl⟩
        have HU := Lib.hid (And.intro hs' hn')
        clear hs' hn'
        obtain ⟨I, W, hne, hWI, hIW⟩ := Go.Mix.family (fun v => Below wr.heap.size wr v) (Below.refl _ _)
        have HJ := Lib.hid hIW
        have HW := Lib.hid hWI
        clear hWI hIW
        refine Go.Flo2.wp_region (fun w' => ∃ i, w' = W i) 13 [Go.Flo.Spec.is (.tuple #[.agg #[.int .u8 s', .int .u8 l', .int .u8 b'], .int .u8 n'])] (by kernel_rfl) (by kernel_rfl) (by decide) (by rintro _ w' ⟨i, rfl⟩ hb; exact HJ.out _ ((HW.out i).trans (hb.mono (HW.out i).size))) (HJ.out _ (Below.refl _ _).drew) ?_
        simp only [Go.Flo.pair, Go.Mix.calm, List.take, List.drop, if_true, Bool.false_eq_true, if_false, Nat.reduceAdd, Nat.reduceSub]
        have k0 : ∀ i, (W i).cell? ⟨gu, 0, none⟩ = some (.int .u8 1) := fun i => ((HW.out i).cell (p := ⟨gu, 0, none⟩) hgu).trans q0
        have k1 : ∀ i, (W i).cell? ⟨gu, 1, none⟩ = some (.int .u8 y) := fun i => ((HW.out i).cell (p := ⟨gu, 1, none⟩) hgu).trans q1
        have k2 : ∀ i, (W i).cell? ⟨gu, 2, none⟩ = some (.int .u8 0) := fun i => ((HW.out i).cell (p := ⟨gu, 2, none⟩) hgu).trans q2
        have k3 : ∀ i, (W i).cell? ⟨gr, 0, none⟩ = some (.int .u8 n0_0) := fun i => ((HW.out i).cell (p := ⟨gr, 0, none⟩) hgr).trans r0
        have k4 : ∀ i, (W i).cell? ⟨gr, 1, none⟩ = some (.int .u8 n0_1) := fun i => ((HW.out i).cell (p := ⟨gr, 1, none⟩) hgr).trans r1
        (repeat (first | (refine Go.Flo.fw_calm rfl ?_ (fun K hK => ?_); (first | exact Go.Mix.wanted_none rfl | exact Go.Mix.wanted_tt rfl rfl rfl | exact Go.Mix.wanted_ff rfl rfl rfl); go_big_quiet_op; refine hK _ ?_; clear hK K) | (refine Go.Flo.fw_skip ?_ (fun K hK => ?_); (first | exact Go.Mix.wanted_tf rfl rfl rfl | exact Go.Mix.wanted_ft rfl rfl rfl); go_simp; refine hK _ ?_; clear hK K) | (refine Go.Flo.fw_any rfl ?_ (fun K hK => ?_); (first | exact Go.Mix.wanted_none rfl | exact Go.Mix.wanted_tt rfl rfl rfl | exact Go.Mix.wanted_ff rfl rfl rfl); go_simp; (try (go_ints; try go_simp)); refine hK _ ?_; clear hK K)))
        refine Go.Flo.fw_loud rfl ?_ rfl (by simp) (fun wv hwv hav K hK => ?_) (fun v hv K hK => ?_)
        · (first | exact Go.Mix.wanted_none rfl | exact Go.Mix.wanted_tt rfl rfl rfl | exact Go.Mix.wanted_ff rfl rfl rfl)
        · obtain ⟨iv, rfl⟩ := hwv
          have hbv := HW.out iv
          (first | go_big_op | go_simp)
          go_at_call 55
          refine (Step_det 1 y 0 false true n0_0 n0_1 s' l' b' n' _ y0 y1 (by decide) (by decide) t1 HU.out.1 HU.out.2).mono ?_
          rintro e w' ⟨rfl, hb⟩
          exact hK _ _ (Go.Flo.owes_is _ rfl hb)
        obtain rfl := hv.is
        go_simp
        refine hK _ ?_
        clear hK K hv
        (repeat (first | (refine Go.Flo.fw_calm rfl ?_ (fun K hK => ?_); (first | exact Go.Mix.wanted_none rfl | exact Go.Mix.wanted_tt rfl rfl rfl | exact Go.Mix.wanted_ff rfl rfl rfl); go_big_quiet_op; refine hK _ ?_; clear hK K) | (refine Go.Flo.fw_skip ?_ (fun K hK => ?_); (first | exact Go.Mix.wanted_tf rfl rfl rfl | exact Go.Mix.wanted_ft rfl rfl rfl); go_simp; refine hK _ ?_; clear hK K) | (refine Go.Flo.fw_any rfl ?_ (fun K hK => ?_); (first | exact Go.Mix.wanted_none rfl | exact Go.Mix.wanted_tt rfl rfl rfl | exact Go.Mix.wanted_ff rfl rfl rfl); go_simp; (try (go_ints; try go_simp)); refine hK _ ?_; clear hK K)))
        refine Go.Flo.fw_nil ?_
        intro w2 hww2 hfw2 huw2
        obtain ⟨iend, hiend⟩ := hww2
        have hbw2 := HW.out iend
        rw [← hiend] at hbw2
        clear hiend iend huw2
        have HS2 := Lib.hid (HS.out.step hbw2 (Nat.le_refl _))
        have g4 := HS2.out.bu
        clear hfw2 HJ HW hne k0 k1 k2 k3 k4 hbw2 r0 r1 q0 q1 q2 hcmp
        clear W I
        refine ⟨fun _ => True, trivial, ?_⟩

        (repeat (first | (refine Go.Mix.walk_calm rfl ?_ (fun K hK => ?_); (first | exact Go.Mix.wanted_none rfl | exact Go.Mix.wanted_tt rfl rfl rfl | exact Go.Mix.wanted_ff rfl rfl rfl); go_big_quiet_op; refine hK _ ?_; clear hK K) | (refine Go.Mix.walk_skip ?_ (fun K hK => ?_); (first | exact Go.Mix.wanted_tf rfl rfl rfl | exact Go.Mix.wanted_ft rfl rfl rfl); go_simp; refine hK _ ?_; clear hK K) | (refine Go.Mix.walk_loud rfl ?_ (fun K hK => ?_); (first | exact Go.Mix.wanted_none rfl | exact Go.Mix.wanted_tt rfl rfl rfl | exact Go.Mix.wanted_ff rfl rfl rfl); (first | go_big_op | go_simp); (first | (refine hK _ _ trivial ?_; clear hK K) | (fail; (try dsimp only); refine hK _ _ trivial ?_; clear hK K))) | (refine Go.Mix.walk_step (fun K hK => ?_); go_simp; (try (go_ints; try go_simp)); refine hK _ _ ?_; clear hK K)))
        (refine Go.Mix.walk_loud rfl ?_ (fun K hK => ?_); (first | exact Go.Mix.wanted_none rfl | exact Go.Mix.wanted_tt rfl rfl rfl | exact Go.Mix.wanted_ff rfl rfl rfl); refine wp_store_row 110 _ _ rfl _ #[.int .u8 s', .int .u8 l', .int .u8 b'] rfl rfl 110 _ g4 size_un rfl (by simp [Value.oneCell']) (hK _ _ trivial ?_); clear hK K)
        (repeat (first | (refine Go.Mix.walk_calm rfl ?_ (fun K hK => ?_); (first | exact Go.Mix.wanted_none rfl | exact Go.Mix.wanted_tt rfl rfl rfl | exact Go.Mix.wanted_ff rfl rfl rfl); go_big_quiet_op; refine hK _ ?_; clear hK K) | (refine Go.Mix.walk_skip ?_ (fun K hK => ?_); (first | exact Go.Mix.wanted_tf rfl rfl rfl | exact Go.Mix.wanted_ft rfl rfl rfl); go_simp; refine hK _ ?_; clear hK K) | (refine Go.Mix.walk_loud rfl ?_ (fun K hK => ?_); (first | exact Go.Mix.wanted_none rfl | exact Go.Mix.wanted_tt rfl rfl rfl | exact Go.Mix.wanted_ff rfl rfl rfl); (first | go_big_op | go_simp); (first | (refine hK _ _ trivial ?_; clear hK K) | (fail; (try dsimp only); refine hK _ _ trivial ?_; clear hK K))) | (refine Go.Mix.walk_step (fun K hK => ?_); go_simp; (try (go_ints; try go_simp)); refine hK _ _ ?_; clear hK K)))
        refine Go.Mix.walk_nil ?_
        have HS3 := Lib.hid (HS2.out.put s' l' b')
        go_wp2_with fail
        go_roundw
        case rel => exact ⟨k + 1, s', l', b', by go_num, HS3.out, UB.next false true hlt (by rw [← HY.out]; exact HU.out.1)⟩
        case measure => simp [intOf]; omega
    · have hne : (s == 1) = false := by rcases hu with rfl | rfl <;> rfl
      have HS := Lib.hid hS
      have HU := Lib.hid hu
      have r0 := cell_of_row _ _ 0 _ _ _ hS.br
      have r1 := cell_of_row _ _ 1 _ _ _ hS.br
      have q0 := cell_of_row _ _ 0 _ _ _ hS.bu
      have q1 := cell_of_row _ _ 1 _ _ _ hS.bu
      have q2 := cell_of_row _ _ 2 _ _ _ hS.bu
      have hkk : (k : Int) ≤ 256 := by omega
      clear hS hk hu
      go_wp2_with fail
      go_at_call 53
      refine (OrderNew_at 0 0 0 n0_0 n0_1 _ (.inl rfl)).mono ?_
      rintro e w2 ⟨rfl, hb⟩
      have HS2 := Lib.hid (HS.out.step hb (Nat.le_refl _))
      have HV := Lib.hid (USt.new (Below.refl w2.heap.size w2) HS2.out.br 1 n0_0 0)
      have r0 := cell_of_row _ _ 0 _ _ _ ((Below.heap_alloc w2 (.cells #[.int .u8 1, .int .u8 n0_0, .int .u8 0] 110) _ (box_lt HS2.out.br)).trans HS2.out.br)
      clear hb HS q0 q1 q2
      obtain ⟨K, hK0, hK1, hK2⟩ : ∃ K : Nat, a2 % (n0_0 + 1) = K ∧ (K : Int) ≤ n0_0 ∧ (K : Int) ≤ 255 := by
        have h1 := Int.emod_nonneg a2 (show n0_0 + 1 ≠ 0 by omega)
        have h2 := Int.emod_lt_of_pos a2 (show 0 < n0_0 + 1 by omega)
        exact ⟨(a2 % (n0_0 + 1)).toNat, by omega, by omega, by omega⟩
      go_wp2_with fail
      rw [hK0]
      obtain ⟨ws, hws⟩ : ∃ ws, ws = w2.alloc (.cells #[.int .u8 1, .int .u8 n0_0, .int .u8 0] 110) := ⟨_, rfl⟩
      obtain ⟨gv, hgv⟩ : ∃ g, g = w2.heap.size := ⟨_, rfl⟩
      rw [← hws, ← hgv] at HV
      rw [← hws, ← hgv]
      clear hws hgv r0 hK0
      go_loopw [61] (fun i wr => ∃ k : Nat, (k : Int) ≤ K ∧ i = .int .i64 k ∧ USt w2 wr gr gv n0_0 n0_1 1 (n0_0 - k) 0) (fun i _ => K - (intOf i).toNat)
      case atStart => exact ⟨0, by omega, rfl, by have := HV.out; simpa using this⟩
      case round =>
        obtain ⟨j, hj, rfl, hS⟩ := hrel
        clear HV
        obtain ⟨y, hy⟩ : ∃ y, y = n0_0 - (j : Int) := ⟨_, rfl⟩
        rw [← hy] at hS
        have HV := Lib.hid hS
        have r0 := cell_of_row _ _ 0 _ _ _ hS.br
        have r1 := cell_of_row _ _ 1 _ _ _ hS.br
        have q0 := cell_of_row _ _ 0 _ _ _ hS.bu
        have q1 := cell_of_row _ _ 1 _ _ _ hS.bu
        have q2 := cell_of_row _ _ 2 _ _ _ hS.bu
        clear hS
        have y0 : 0 ≤ y := by omega
        have y1 : y ≤ 255 := by omega
        by_cases hlt : j < K
        · have hy2 : y - 1 = n0_0 - ((j + 1 : Nat) : Int) := by omega
          have HY := Lib.hid hy2
          have hy3 : ¬ y = 0 := by omega
          have HN := Lib.hid hy3
          clear hy hy2 hy3
          go_wp2_with fail
          go_at_call 55
          refine (Step_det 1 y 0 false false n0_0 n0_1 1 (y - 1) 0 0 _ y0 y1 (by decide) (by decide) t1 (by simp [uStep, HN.out]) (by simp [uBec, HN.out])).mono ?_
          rintro e w' ⟨rfl, hb⟩
          have HS' := Lib.hid (HV.out.step hb (Nat.le_refl _))
          have g4 := HS'.out.bu
          clear hb HV r0 r1 q0 q1 q2
          go_wp2_with (refine wpList_store_row rfl 110 _ _ rfl _ _ rfl rfl _ _ g4 (by exact size_un) (by rfl) (by simp [Value.oneCell']) ?_; (try go_simp))
          have HV := Lib.hid (HS'.out.put 1 (y - 1) 0)
          clear g4 HS'
          go_roundw
          case rel => exact ⟨j + 1, by omega, by go_num, by rw [← HY.out]; exact HV.out⟩
          case measure => simp [intOf]; omega
        · clear hy
          go_wp2_with fail
          go_at_call 55
          refine (Step_det 1 y 0 true false n0_0 n0_1 2 0 0 1 _ y0 y1 (by decide) (by decide) t1 rfl rfl).mono ?_
          rintro e w' ⟨rfl, hb⟩
          have HS' := Lib.hid (HV.out.step hb (Nat.le_refl _))
          have g4 := HS'.out.bu
          clear hb HV r0 r1 q0 q1 q2
          go_wp2_with (refine wpList_store_row rfl 110 _ _ rfl _ _ rfl rfl _ _ g4 (by exact size_un) (by rfl) (by simp [Value.oneCell']) ?_; (try go_simp))
          have HV := Lib.hid (HS'.out.put 2 0 0)
          obtain ⟨ws, hws⟩ : ∃ ws, ws = w'.setRow gv #[.int .u8 2, .int .u8 0, .int .u8 0] := ⟨_, rfl⟩
          rw [← hws] at HV
          rw [← hws]
          clear g4 HS' hws
          go_loopw [76] (fun i wr => ∃ k : Nat, k ≤ 20 ∧ i = .int .i64 k ∧ USt w2 wr gr gv n0_0 n0_1 2 0 0) (fun i _ => 20 - (intOf i).toNat)
          case atStart => exact ⟨0, by omega, rfl, HV.out⟩
          case round =>
            obtain ⟨m, hm, rfl, hS⟩ := hrel
            clear HV
            have HV := Lib.hid hS
            have r0 := cell_of_row _ _ 0 _ _ _ hS.br
            have r1 := cell_of_row _ _ 1 _ _ _ hS.br
            have q0 := cell_of_row _ _ 0 _ _ _ hS.bu
            have q1 := cell_of_row _ _ 1 _ _ _ hS.bu
            have q2 := cell_of_row _ _ 2 _ _ _ hS.bu
            clear hS
            by_cases hl2 : m < 20
            · go_wp2_with fail
              go_at_call 58
              refine (Works_at 2 0 0 _).mono ?_
              rintro e w3 ⟨rfl, hb⟩
              have hS3 := HV.out.step hb (Nat.le_refl _)
              clear HV r0 r1 q0 q1 q2 hb
              have HV := Lib.hid hS3
              have r0 := cell_of_row _ _ 0 _ _ _ hS3.br
              have r1 := cell_of_row _ _ 1 _ _ _ hS3.br
              have q0 := cell_of_row _ _ 0 _ _ _ hS3.bu
              have q1 := cell_of_row _ _ 1 _ _ _ hS3.bu
              have q2 := cell_of_row _ _ 2 _ _ _ hS3.bu
              clear hS3
              go_wp2_with fail
              go_at_call 55
              refine (Step_det 2 0 0 true true n0_0 n0_1 2 0 0 0 _ (by decide) (by decide) (by decide) (by decide) t1 rfl rfl).mono ?_
              rintro e w' ⟨rfl, hb⟩
              have HS' := Lib.hid (HV.out.step hb (Nat.le_refl _))
              have g4 := HS'.out.bu
              clear hb HV r0 r1 q0 q1 q2
              go_wp2_with (refine wpList_store_row rfl 110 _ _ rfl _ _ rfl rfl _ _ g4 (by exact size_un) (by rfl) (by simp [Value.oneCell']) ?_; (try go_simp))
              have HV := Lib.hid (HS'.out.put 2 0 0)
              clear g4 HS'
              go_roundw
              case rel => exact ⟨m + 1, by omega, by go_num, HV.out⟩
              case measure => simp [intOf]; omega
            · have hu0 := (HV.out.be.cell (p := ⟨gu, 0, none⟩) (box_lt HS2.out.bu)).trans (cell_of_row _ _ 0 _ _ _ HS2.out.bu)
              have HBB := Lib.hid (HS2.out.be.trans (HV.out.be.mono HS2.out.be.size))
              rcases HU.out with rfl | rfl
              all_goals
                clear HU
                go_wp2
                go_ret
                exact ⟨rfl, HBB.out⟩
end Go.Proofs.Ytkcpeefnlmmilaa
