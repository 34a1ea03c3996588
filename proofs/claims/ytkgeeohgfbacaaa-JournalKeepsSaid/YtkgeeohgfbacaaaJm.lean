/- Layer 17: journals: noted. -/
import Derived.Test.YtkgeeohgfbacaaaJn
namespace Go.Proofs.Ytkgeeohgfbacaaa.Je
open Go.RowKit Go.Own Go.Shelf
set_option linter.unusedVariables false
set_option linter.unusedSimpArgs false
theorem run_minJ {P : Program} (ats : Array TypeId) (ty : TypeId) (k : IntKind) (a b : Int) (w : World) : (Builtin.min_ ats ty #[.int k a, .int k b]).run P w = .ok (.int k (min a b)) w := by
  have e2 : (Builtin.min2 (.int k a) (.int k b)).run P w = .ok (.int k (min a b)) w := by
    unfold Builtin.min2
    by_cases h : b < a
    · have e : min a b = b := by omega
      simp [e, h]
    · have e : min a b = a := by omega
      simp [e, h]
  simp [Builtin.min_, e2]
set_option maxRecDepth 100000 in
set_option maxHeartbeats 2000000 in
theorem note_nil (t e g d : Value) (w : World) : Calls Try.prog 60 #[.pointer none, t, e, g, d] w fun x w' => x = .returned (.agg #[.int .u32 (en0.q : Nat), .int .u32 (en0.t : Nat), .int .u8 (en0.e : Nat), .int .u8 (en0.g : Nat), .int .u32 (en0.d : Nat)]) ∧ Below w.heap.size w w' := by
  have hz := zero_en
  have hal : Below w.heap.size w (w.alloc (.cells #[.int .u32 (en0.q : Nat), .int .u32 (en0.t : Nat), .int .u8 (en0.e : Nat), .int .u8 (en0.g : Nat), .int .u32 (en0.d : Nat)] 143)) := (Below.refl _ _).alloc (Nat.le_refl _) _
  have hbox := heap_alloc_new w (.cells #[.int .u32 (en0.q : Nat), .int .u32 (en0.t : Nat), .int .u8 (en0.e : Nat), .int .u8 (en0.g : Nat), .int .u32 (en0.d : Nat)] 143)
  go_enter Try.func60, Try.ntmps60
  go_wp2_with (first | (refine wpList_load_row rfl 143 _ rfl _ rfl _ _ _ _ (by (first | exact heap_alloc2_new _ _ _ | exact heap_alloc2_old _ _ _ | exact heap_alloc_new _ _ | assumption)) Try.underlying143 rfl (by exact size_en) ?_; (try go_simp)) | (refine wpList_store_row rfl 143 _ _ rfl _ _ rfl rfl _ _ (by (first | exact heap_alloc2_new _ _ _ | exact heap_alloc2_old _ _ _ | exact heap_alloc_new _ _ | assumption)) (by exact size_en) (by rfl) (by simp [Value.oneCell']) ?_; (first | rw [setRow_alloc2_new] | rw [setRow_alloc2_old] | rw [World.setRow_alloc_new] | skip); (try go_simp)))
  refine bodyPost_ret (results_cell_row rfl _ _ _ _ _ _ _ rfl hbox Try.underlying143 rfl size_en) rfl ?_
  exact ⟨rfl, hal⟩
/-- What one more becomes. -/
def nextE (L : List En) (t e g d : Nat) : En := ⟨((last L).q + 1) % 4294967296, t, e, min g 3, d⟩
set_option maxRecDepth 100000 in
set_option maxHeartbeats 2000000 in
theorem jNote {w : World} {gj g b n lo : Nat} {M : List En} (t e gr d : Nat) (h : JS w gj g b n (lastn n M) lo) :
    Calls Try.prog 60 #[.pointer (some ⟨gj, 0, none⟩), .int .u32 (t : Nat), .int .u8 (e : Nat), .int .u8 (gr : Nat), .int .u32 (d : Nat)] w fun x w' => x = .returned (.agg #[.int .u32 ((nextE (lastn n M) t e gr d).q : Nat), .int .u32 ((nextE (lastn n M) t e gr d).t : Nat), .int .u8 ((nextE (lastn n M) t e gr d).e : Nat), .int .u8 ((nextE (lastn n M) t e gr d).g : Nat), .int .u32 ((nextE (lastn n M) t e gr d).d : Nat)]) ∧ JS w' gj g b n (lastn n (M ++ [nextE (lastn n M) t e gr d])) (min (lo + (if n ≤ M.length then 1 else 0)) 65535) ∧ Kept g b w w' := by
  obtain ⟨lz, hlz⟩ : ∃ lz, lz = if n ≤ M.length then 1 else 0 := ⟨_, rfl⟩
  rw [← hlz]
  have HLZ := Lib.hid hlz
  clear hlz
  obtain ⟨y, hy⟩ : ∃ y, y = last (lastn n M) := ⟨_, rfl⟩
  obtain ⟨x, hx⟩ : ∃ x, x = nextE (lastn n M) t e gr d := ⟨_, rfl⟩
  rw [← hx]
  have hx2 : x = ⟨(y.q + 1) % 4294967296, t, e, min gr 3, d⟩ := by rw [hx, hy]; rfl
  have hwr : IntKind.u32.wrap ((y.q : Int) + 1) = (((y.q + 1) % 4294967296 : Nat) : Int) := by rw [IntKind.wrap_u32]; omega
  have hmn := fun (w : World) => run_minJ (P := Try.prog) #[5, 5] 5 .u8 (gr : Nat) 3 w
  have hme : min (gr : Int) 3 = ((min gr 3 : Nat) : Int) := by omega
  rw [hme] at hmn
  have hrg : w.heap.size ≠ g ∧ w.heap.size ≠ b := by have := h.ring.le; omega
  have hrj : w.heap.size ≠ gj := by have := box_lt h.box; omega
  have hgl : g < w.heap.size ∧ b < w.heap.size ∧ gj < w.heap.size := by have := h.ring.le; have := box_lt h.box; omega
  have HRG := Lib.hid hrg
  have HGL := Lib.hid hgl
  clear hrg hgl
  obtain ⟨b0, hb0⟩ : ∃ b0, b0 = decide (0 < (lastn n M).length) := ⟨_, rfl⟩
  have hz := zero_en
  have hal : Below w.heap.size w (w.alloc (.cells #[.int .u32 (en0.q : Nat), .int .u32 (en0.t : Nat), .int .u8 (en0.e : Nat), .int .u8 (en0.g : Nat), .int .u32 (en0.d : Nat)] 143)) := (Below.refl _ _).alloc (Nat.le_refl _) _
  have hbox := heap_alloc_new w (.cells #[.int .u32 (en0.q : Nat), .int .u32 (en0.t : Nat), .int .u8 (en0.e : Nat), .int .u8 (en0.g : Nat), .int .u32 (en0.d : Nat)] 143)
  have hl := jLast (h.below hal (Nat.le_refl _)).jr
  rw [← hy, ← hb0] at hl
  have HL := Lib.hid hl
  have H := Lib.hid (h.below hal (Nat.le_refl _))
  have HX := Lib.hid hx2
  clear hl h hx hy hb0 hx2
  go_enter Try.func60, Try.ntmps60
  go_wp2_with fail
  go_at_call 61
  refine HL.out.mono ?_
  rintro z w2 ⟨rfl, hb2⟩
  have H2 := Lib.hid (H.out.below hb2 (Nat.le_refl _))
  have hbox2 := Lib.hid (box_below hbox hb2 (box_lt hbox))
  have HB2 := Lib.hid (hal.trans (hb2.mono hal.size))
  clear hbox hb2 hal H HL
  have hal3 : Below w2.heap.size w2 (w2.alloc (.cells #[.int .u32 (y.q : Nat), .int .u32 (y.t : Nat), .int .u8 (y.e : Nat), .int .u8 (y.g : Nat), .int .u32 (y.d : Nat)] 143)) := (Below.refl _ _).alloc (Nat.le_refl _) _
  have hbox3 := heap_alloc_new w2 (.cells #[.int .u32 (y.q : Nat), .int .u32 (y.t : Nat), .int .u8 (y.e : Nat), .int .u8 (y.g : Nat), .int .u32 (y.d : Nat)] 143)
  have k0 := cell_of_row _ _ 0 _ _ _ hbox3
  have k1 := cell_of_row _ _ 1 _ _ _ hbox3
  have k2 := cell_of_row _ _ 2 _ _ _ hbox3
  have k3 := cell_of_row _ _ 3 _ _ _ hbox3
  have k4 := cell_of_row _ _ 4 _ _ _ hbox3
  go_wp2_with (first | fail | (refine wpList_store_row rfl 143 _ _ rfl _ _ rfl rfl _ _ (by (first | exact heap_alloc2_new _ _ _ | exact heap_alloc2_old _ _ _ | exact heap_alloc_new _ _ | assumption)) (by exact size_en) (by rfl) (by simp [Value.oneCell']) ?_; (first | rw [setRow_alloc2_new] | rw [setRow_alloc2_old] | rw [World.setRow_alloc_new] | skip); (try go_simp)))
  have hcells : #[Value.int .u32 (((y.q : Int) + 1) % 4294967296), .int .u32 (t : Nat), .int .u8 (e : Nat), .int .u8 ((min gr 3 : Nat) : Int), .int .u32 (d : Nat)] = #[.int .u32 (x.q : Nat), .int .u32 (x.t : Nat), .int .u8 (x.e : Nat), .int .u8 (x.g : Nat), .int .u32 (x.d : Nat)] := by
    rw [HX.out]
    have : ((y.q : Int) + 1) % 4294967296 = (((y.q + 1) % 4294967296 : Nat) : Int) := by omega
    rw [this]
  rw [hcells]
  have hal4 : Below w2.heap.size w2 ((w2.alloc (.cells #[.int .u32 (y.q : Nat), .int .u32 (y.t : Nat), .int .u8 (y.e : Nat), .int .u8 (y.g : Nat), .int .u32 (y.d : Nat)] 143)).alloc (.cells #[.int .u32 (x.q : Nat), .int .u32 (x.t : Nat), .int .u8 (x.e : Nat), .int .u8 (x.g : Nat), .int .u32 (x.d : Nat)] 143)) := hal3.alloc hal3.size _
  have hbx := heap_alloc2_new w2 (.cells #[.int .u32 (y.q : Nat), .int .u32 (y.t : Nat), .int .u8 (y.e : Nat), .int .u8 (y.g : Nat), .int .u32 (y.d : Nat)] 143) (.cells #[.int .u32 (x.q : Nat), .int .u32 (x.t : Nat), .int .u8 (x.e : Nat), .int .u8 (x.g : Nat), .int .u32 (x.d : Nat)] 143)
  have H3 := Lib.hid (H2.out.below hal4 (Nat.le_refl _))
  have hbr := box_below hbox2.out hal4 (box_lt hbox2.out)
  have HB3 := Lib.hid (HB2.out.trans (hal4.mono HB2.out.size))
  have hg2 := H2.out.ring.le
  have hxg : w2.heap.size + 1 ≠ g ∧ w2.heap.size + 1 ≠ b := by omega
  have hrg := HRG.out
  obtain ⟨w3, hw3⟩ : ∃ w3, w3 = (w2.alloc (.cells #[.int .u32 (y.q : Nat), .int .u32 (y.t : Nat), .int .u8 (y.e : Nat), .int .u8 (y.g : Nat), .int .u32 (y.d : Nat)] 143)).alloc (.cells #[.int .u32 (x.q : Nat), .int .u32 (x.t : Nat), .int .u8 (x.e : Nat), .int .u8 (x.g : Nat), .int .u32 (x.d : Nat)] 143) := ⟨_, rfl⟩
  obtain ⟨x1, hx1⟩ : ∃ x1, x1 = w2.heap.size + 1 := ⟨_, rfl⟩
  rw [← hw3] at hbx H3 hbr HB3 ⊢
  rw [← hx1] at hbx hxg ⊢
  have hjw := box_lt H3.out.box
  have hxw := box_lt hbx
  have d0 := box_cell H3.out.box
  clear hal4 hal3 hbox3 k0 k1 k2 k3 k4 hcells hw3 hx1 H2 HB2 hbox2 hwr hmn hme
  obtain ⟨I, W, hne, hWI, hIW⟩ := Go.Mix.family (fun v => Below w3.heap.size w3 v) (Below.refl _ _)
  have HJ := Lib.hid hIW
  have HW := Lib.hid hWI
  clear hWI hIW
  refine Go.Flo.wp_region (fun w' => ∃ i, w' = W i) 6 [Go.Flo.Spec.row w3.heap.size 1 #[.int .u32 (x.q : Nat), .int .u32 (x.t : Nat), .int .u8 (x.e : Nat), .int .u8 (x.g : Nat), .int .u32 (x.d : Nat)] 143] (by kernel_rfl) (by kernel_rfl) (by decide) (by rintro _ w' ⟨i, rfl⟩ hb; exact HJ.out _ ((HW.out i).trans (hb.mono (HW.out i).size))) (HJ.out _ (Below.refl _ _).drew) ?_
  simp only [Go.Flo.pair, Go.Mix.calm, List.take, List.drop, if_true, Bool.false_eq_true, if_false, Nat.reduceAdd, Nat.reduceSub]
  have e0 : ∀ i, (W i).cell? ⟨gj, 0, none⟩ = some (.pointer (some ⟨g, 0, none⟩)) := fun i => ((HW.out i).cell (p := ⟨gj, 0, none⟩) hjw).trans d0
  (repeat (first | (refine Go.Flo.fw_calm rfl ?_ (fun K hK => ?_); (first | exact Go.Mix.wanted_none rfl | exact Go.Mix.wanted_tt rfl rfl rfl | exact Go.Mix.wanted_ff rfl rfl rfl); go_big_quiet_op; refine hK _ ?_; clear hK K) | (refine Go.Flo.fw_skip ?_ (fun K hK => ?_); (first | exact Go.Mix.wanted_tf rfl rfl rfl | exact Go.Mix.wanted_ft rfl rfl rfl); go_simp; refine hK _ ?_; clear hK K) | (refine Go.Flo.fw_any rfl ?_ (fun K hK => ?_); (first | exact Go.Mix.wanted_none rfl | exact Go.Mix.wanted_tt rfl rfl rfl | exact Go.Mix.wanted_ff rfl rfl rfl); go_simp; (try (go_ints; try go_simp)); refine hK _ ?_; clear hK K)))
  (refine Go.Flo.fw_calm rfl ?_ (fun K hK => ?_); (first | exact Go.Mix.wanted_none rfl | exact Go.Mix.wanted_tt rfl rfl rfl | exact Go.Mix.wanted_ff rfl rfl rfl); refine Go.Flo.quiet_load_row 143 _ rfl x1 rfl _ #[.int .u32 (x.q : Nat), .int .u32 (x.t : Nat), .int .u8 (x.e : Nat), .int .u8 (x.g : Nat), .int .u32 (x.d : Nat)] _ (by rintro _ ⟨i, rfl⟩; exact ((HW.out i).block x1 hxw).trans hbx) Try.underlying143 rfl size_en ?_; go_simp; refine hK _ ?_; clear hK K)
  (repeat (first | (refine Go.Flo.fw_calm rfl ?_ (fun K hK => ?_); (first | exact Go.Mix.wanted_none rfl | exact Go.Mix.wanted_tt rfl rfl rfl | exact Go.Mix.wanted_ff rfl rfl rfl); go_big_quiet_op; refine hK _ ?_; clear hK K) | (refine Go.Flo.fw_skip ?_ (fun K hK => ?_); (first | exact Go.Mix.wanted_tf rfl rfl rfl | exact Go.Mix.wanted_ft rfl rfl rfl); go_simp; refine hK _ ?_; clear hK K) | (refine Go.Flo.fw_any rfl ?_ (fun K hK => ?_); (first | exact Go.Mix.wanted_none rfl | exact Go.Mix.wanted_tt rfl rfl rfl | exact Go.Mix.wanted_ff rfl rfl rfl); go_simp; (try (go_ints; try go_simp)); refine hK _ ?_; clear hK K)))
  refine Go.Flo.fw_loud rfl ?_ rfl (by simp) (fun wv hwv hav K hK => ?_) (fun v hv K hK => ?_)
  · (first | exact Go.Mix.wanted_none rfl | exact Go.Mix.wanted_tt rfl rfl rfl | exact Go.Mix.wanted_ff rfl rfl rfl)
  · obtain ⟨iv, rfl⟩ := hwv
    (first | go_big_op | go_simp)
    refine hK _ _ (Go.Flo.owes_row (HW.out iv).size)
  obtain ⟨ge, hge, rfl⟩ := hv.row
  go_simp
  refine hK _ ?_
  clear hK K hv
  refine Go.Flo.fw_nil ?_
  intro w4 hww4 hfw4 huw4
  obtain ⟨iend, hiend⟩ := hww4
  have hbw4 := HW.out iend
  rw [← hiend] at hbw4
  clear hiend iend huw4
  have hrow := Go.Flo.says_row ((hfw4 (some 36)).2 rfl).1
  have hne1 : ge ≠ g ∧ ge ≠ b := by have := H3.out.ring.le; omega
  have H4 := Lib.hid (H3.out.below hbw4 (Nat.le_refl _))
  have hbx4 := box_below hbx hbw4 hxw
  have hbr4 := box_below hbr hbw4 (box_lt hbr)
  have HB4 := Lib.hid (HB3.out.trans (hbw4.mono HB3.out.size))
  have HROW := Lib.hid hrow
  clear hfw4 HJ HW hne e0 d0 hbw4 hbx hbr H3 HB3 hrow
  clear W I
  refine Go.Flo.tw_step ?_ (fun K hK => ?_)
  · (first | exact Go.Mix.wanted_none rfl | exact Go.Mix.wanted_tt rfl rfl rfl | exact Go.Mix.wanted_ff rfl rfl rfl)
  (first | go_big_op | go_simp)
  go_at_call 112
  refine (ePush x ge H4.out.ring HROW.out hne1.1 hne1.2).mono ?_
  rintro z w5 ⟨⟨v5, rfl⟩, hr5, hk5⟩
  rw [← HLZ.out] at hr5
  refine hK _ _ ?_
  clear hK K
  refine Go.Flo.tw_nil ?_
  have hgj := H4.out
  have hbj5 := (hk5.block gj (box_lt hgj.box) hgj.ng hgj.nb).trans hgj.box
  have hbx5 := (hk5.block x1 (box_lt hbx4) hxg.1 hxg.2).trans hbx4
  have hbr5 := (hk5.block w.heap.size (box_lt hbr4) hrg.1 hrg.2).trans hbr4
  have H5 := Lib.hid (show JS w5 gj g b n (lastn n (M ++ [x])) _ from ⟨hbj5, hr5, hgj.ng, hgj.nb⟩)
  have K5 := Lib.hid ((Kept.of_below (g := g) (b := b) HB4.out).trans hk5)
  have hrj5 : gj ≠ w.heap.size := Ne.symm hrj
  clear hgj hr5 hk5 hbj5 H4 HB4 hbx4 hbr4 HROW
  go_wp2_with (first | (refine wpList_load_row rfl 143 _ rfl _ rfl _ _ _ _ hbx5 Try.underlying143 rfl (by exact size_en) ?_; (try go_simp)) | (refine wpList_store_row rfl 143 _ _ rfl _ _ rfl rfl _ _ hbr5 (by exact size_en) (by rfl) (by simp [Value.oneCell']) ?_; (try go_simp)))
  have hfin := setRow_heap _ w.heap.size _ #[.int .u32 (x.q : Nat), .int .u32 (x.t : Nat), .int .u8 (x.e : Nat), .int .u8 (x.g : Nat), .int .u32 (x.d : Nat)] _ _ hbr5
  refine bodyPost_ret (results_cell_row rfl _ _ _ _ _ _ _ rfl hfin Try.underlying143 rfl size_en) rfl ?_
  have h5 := H5.out
  have k5 := K5.out
  exact ⟨rfl, ⟨(setRow_other _ _ _ _ hrj5).trans h5.box, h5.ring.same (setRow_other _ _ g _ (Ne.symm hrg.1)) (setRow_other _ _ b _ (Ne.symm hrg.2)), h5.ng, h5.nb⟩, k5.os, k5.tape, k5.output, by simpa [World.setRow] using k5.size, fun i hi h1 h2 => (setRow_other _ _ i _ (by omega)).trans (k5.block i hi h1 h2)⟩
end Go.Proofs.Ytkgeeohgfbacaaa.Je
