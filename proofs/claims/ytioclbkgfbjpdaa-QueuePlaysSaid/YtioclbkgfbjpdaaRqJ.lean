/- Contracts of layer 3 (rings of reports), on: put in, taken out. -/
import Derived.Test.YtioclbkgfbjpdaaRqI
import Derived.Test.YtioclbkgfbjpdaaCx
namespace Go.Flo
/-- A struct out of the middle of a row. -/
theorem quiet_load_mid {P : Program} {C : World → Prop} {o : Oper} {a : Act} {K : Act → Prop} (ty : TypeId) (x : Operand) (ho : o.op = .load ty x) (b off : Nat) (hx : a.eval x = .pointer (some ⟨b, off, none⟩)) (cs : List Value) {d : TypeDesc}
    (hg : ∀ w, C w → w.rangeAt b off cs) (hu : P.underlying ty = some d) (hd : d.isRow = true) (hi : (P.info? ty).map (·.size) = some cs.length)
    (h : K (a.put o.dst (.agg cs.toArray))) : o.quiet P a C K := by
  refine ⟨.agg cs.toArray, fun w hw => ?_, h⟩
  unfold Oper.quietAt execOp
  simp only [ho, hx, Instr.loadAt, Instr.sureAddr, Sem.run_bind, Sem.run_pure, Result.andThen_ok, run_loadVar_mid w b off ty cs d (hg w hw) hu hd hi]
  exact ⟨rfl, rfl⟩
end Go.Flo
namespace Go.Proofs.Ytioclbkgfbjpdaa
open Go.RowKit Go.Own
set_option linter.unusedVariables false
set_option linter.unusedSimpArgs false
variable {w : World} {g b n f c d : Nat} {sl : List Rq}
theorem rq_load (w : World) (b o : Nat) (r : Rq) (h : w.rangeAt b o r.cs) : (Instr.loadAt 123 (.pointer (some ⟨b, o, none⟩))).run Try.prog w = .ok (.agg #[.int .u8 (r.s : Nat), .int .u8 (r.u : Nat), .int .u16 (r.c : Nat), .int .u32 (r.t : Nat), .slice r.a r.n r.cp]) w :=
  run_loadAt_mid w b o 123 r.cs _ h Try.underlying123 rfl size_rq
theorem rq_store (w : World) (b o : Nat) (r : Rq) (h : w.there b o 5) : (Instr.storeAt 123 (.pointer (some ⟨b, o, none⟩)) (.agg #[.int .u8 (r.s : Nat), .int .u8 (r.u : Nat), .int .u16 (r.c : Nat), .int .u32 (r.t : Nat), .slice r.a r.n r.cp])).run Try.prog w = .ok () (w.setCells b o r.cs) :=
  run_storeAt_mid w b o 123 #[.int .u8 (r.s : Nat), .int .u8 (r.u : Nat), .int .u16 (r.c : Nat), .int .u32 (r.t : Nat), .slice r.a r.n r.cp] h size_rq (by simp [Value.oneCell'])
set_option maxRecDepth 100000 in
set_option maxHeartbeats 1000000 in
theorem iput_any (x : Rq) (h : RingP w g b n f c d sl) (hc : c < n) : Calls Try.prog 90 #[.pointer (some ⟨g, 0, none⟩), .agg #[.int .u8 (x.s : Nat), .int .u8 (x.u : Nat), .int .u16 (x.c : Nat), .int .u32 (x.t : Nat), .slice x.a x.n x.cp]] w fun e w' => (∃ v, e = .returned v) ∧ RingP w' g b n f (c + 1) d (sl.set ((f + c) % n) x) ∧ Kept g b w w' := by
  have hn1 := h.n1
  have hn2 := h.n2
  obtain ⟨r, hr⟩ : ∃ r, r = (f + c) % n := ⟨_, rfl⟩
  have hrn : r < n := by rw [hr]; exact Nat.mod_lt _ (by omega)
  have H := Lib.hid h
  have HR := Lib.hid hr
  clear h hr
  go_enter Try.func90, Try.ntmps90
  have hal : Below w.heap.size w (w.alloc (.cells #[.int .u8 (x.s : Nat), .int .u8 (x.u : Nat), .int .u16 (x.c : Nat), .int .u32 (x.t : Nat), .slice x.a x.n x.cp] 123)) := (Below.refl _ _).alloc (Nat.le_refl _) _
  have hbox : (w.alloc (.cells #[.int .u8 (x.s : Nat), .int .u8 (x.u : Nat), .int .u16 (x.c : Nat), .int .u32 (x.t : Nat), .slice x.a x.n x.cp] 123)).heap[w.heap.size]? = some (.cells #[.int .u8 (x.s : Nat), .int .u8 (x.u : Nat), .int .u16 (x.c : Nat), .int .u32 (x.t : Nat), .slice x.a x.n x.cp] 123 (0, 0)) := heap_alloc_new _ _
  go_wp2_with fail
  obtain ⟨w1, hw1⟩ : ∃ w1, w1 = w.alloc (.cells #[.int .u8 (x.s : Nat), .int .u8 (x.u : Nat), .int .u16 (x.c : Nat), .int .u32 (x.t : Nat), .slice x.a x.n x.cp] 123) := ⟨_, rfl⟩
  obtain ⟨x0, hx0⟩ : ∃ x0, x0 = w.heap.size := ⟨_, rfl⟩
  rw [← hw1] at hal hbox
  rw [← hx0] at hbox
  rw [← hw1, ← hx0]
  have h1 := H.out.below hal (Nat.le_refl _)
  have K1 := Lib.hid (Kept.of_below (g := g) (b := b) hal)
  have hgw := box_lt h1.head
  have hbw := h1.hb
  have hxw := box_lt hbox
  have d0 := h1.c0
  have d2 := h1.c2
  have H1 := Lib.hid h1
  clear hal hw1 hx0 h1 H
  obtain ⟨I, W, hne, hWI, hIW⟩ := Go.Mix.family (fun v => Below w1.heap.size w1 v) (Below.refl _ _)
  have HJ := Lib.hid hIW
  have HW := Lib.hid hWI
  clear hWI hIW
  refine Go.Flo.wp_region (fun w' => ∃ i, w' = W i) 12 [Go.Flo.Spec.is (.int .i64 (r : Nat))] (by kernel_rfl) (by kernel_rfl) (by decide) (by rintro _ w' ⟨i, rfl⟩ hb; exact HJ.out _ ((HW.out i).trans (hb.mono (HW.out i).size))) (HJ.out _ (Below.refl _ _).drew) ?_
  simp only [Go.Flo.pair, Go.Mix.calm, List.take, List.drop, if_true, Bool.false_eq_true, if_false, Nat.reduceAdd, Nat.reduceSub]
  have e0 : ∀ i, (W i).cell? ⟨g, 0, none⟩ = some (.slice (some ⟨b, 0, none⟩) n n) := fun i => ((HW.out i).cell (p := ⟨g, 0, none⟩) hgw).trans d0
  have e2 : ∀ i, (W i).cell? ⟨g, 2, none⟩ = some (.int .i64 (c : Nat)) := fun i => ((HW.out i).cell (p := ⟨g, 2, none⟩) hgw).trans d2
  (repeat (first | (refine Go.Flo.fw_calm rfl ?_ (fun K hK => ?_); (first | exact Go.Mix.wanted_none rfl | exact Go.Mix.wanted_tt rfl rfl rfl | exact Go.Mix.wanted_ff rfl rfl rfl); go_big_quiet_op; refine hK _ ?_; clear hK K) | (refine Go.Flo.fw_skip ?_ (fun K hK => ?_); (first | exact Go.Mix.wanted_tf rfl rfl rfl | exact Go.Mix.wanted_ft rfl rfl rfl); go_simp; refine hK _ ?_; clear hK K) | (refine Go.Flo.fw_any rfl ?_ (fun K hK => ?_); (first | exact Go.Mix.wanted_none rfl | exact Go.Mix.wanted_tt rfl rfl rfl | exact Go.Mix.wanted_ff rfl rfl rfl); go_simp; (try (go_ints; try go_simp)); refine hK _ ?_; clear hK K)))
  refine Go.Flo.fw_loud rfl ?_ rfl (by simp) (fun wv hwv hav K hK => ?_) (fun v hv K hK => ?_)
  · (first | exact Go.Mix.wanted_none rfl | exact Go.Mix.wanted_tt rfl rfl rfl | exact Go.Mix.wanted_ff rfl rfl rfl)
  · obtain ⟨iv, rfl⟩ := hwv
    have hbv := HW.out iv
    (first | go_big_op | go_simp)
    go_at_call 87
    refine (islot_any (H1.out.below hbv (Nat.le_refl _)) c (by omega)).mono ?_
    rintro e w' ⟨rfl, q, rfl⟩
    rw [← HR.out]
    exact hK _ _ (Go.Flo.owes_is _ rfl (below_drewsI _ _ _))
  obtain rfl := hv.is
  go_simp
  refine hK _ ?_
  clear hK K hv
  (repeat (first | (refine Go.Flo.fw_calm rfl ?_ (fun K hK => ?_); (first | exact Go.Mix.wanted_none rfl | exact Go.Mix.wanted_tt rfl rfl rfl | exact Go.Mix.wanted_ff rfl rfl rfl); go_big_quiet_op; refine hK _ ?_; clear hK K) | (refine Go.Flo.fw_skip ?_ (fun K hK => ?_); (first | exact Go.Mix.wanted_tf rfl rfl rfl | exact Go.Mix.wanted_ft rfl rfl rfl); go_simp; refine hK _ ?_; clear hK K) | (refine Go.Flo.fw_any rfl ?_ (fun K hK => ?_); (first | exact Go.Mix.wanted_none rfl | exact Go.Mix.wanted_tt rfl rfl rfl | exact Go.Mix.wanted_ff rfl rfl rfl); go_simp; (try (go_ints; try go_simp)); refine hK _ ?_; clear hK K)))
  (refine Go.Flo.fw_calm rfl ?_ (fun K hK => ?_); (first | exact Go.Mix.wanted_none rfl | exact Go.Mix.wanted_tt rfl rfl rfl | exact Go.Mix.wanted_ff rfl rfl rfl); refine Go.Flo.quiet_load_row 123 _ rfl x0 rfl _ #[.int .u8 (x.s : Nat), .int .u8 (x.u : Nat), .int .u16 (x.c : Nat), .int .u32 (x.t : Nat), .slice x.a x.n x.cp] _ (by rintro _ ⟨i, rfl⟩; exact ((HW.out i).block x0 hxw).trans hbox) Try.underlying123 rfl size_rq ?_; go_simp; refine hK _ ?_; clear hK K)
  (repeat (first | (refine Go.Flo.fw_calm rfl ?_ (fun K hK => ?_); (first | exact Go.Mix.wanted_none rfl | exact Go.Mix.wanted_tt rfl rfl rfl | exact Go.Mix.wanted_ff rfl rfl rfl); go_big_quiet_op; refine hK _ ?_; clear hK K) | (refine Go.Flo.fw_skip ?_ (fun K hK => ?_); (first | exact Go.Mix.wanted_tf rfl rfl rfl | exact Go.Mix.wanted_ft rfl rfl rfl); go_simp; refine hK _ ?_; clear hK K) | (refine Go.Flo.fw_any rfl ?_ (fun K hK => ?_); (first | exact Go.Mix.wanted_none rfl | exact Go.Mix.wanted_tt rfl rfl rfl | exact Go.Mix.wanted_ff rfl rfl rfl); go_simp; (try (go_ints; try go_simp)); refine hK _ ?_; clear hK K)))
  refine Go.Flo.fw_nil ?_
  intro w2 hww2 hfw2 huw2
  obtain ⟨iend, hiend⟩ := hww2
  have hbw2 := HW.out iend
  rw [← hiend] at hbw2
  clear hiend iend huw2
  have h2 := H1.out.below hbw2 (Nat.le_refl _)
  have hth := h2.there hrn
  have K2 := Lib.hid (K1.out.trans (Kept.of_below (g := g) (b := b) hbw2))
  have H2 := Lib.hid h2
  clear hfw2 HJ HW hne e0 e2 d0 d2 h2 hbw2
  clear W I
  refine Go.Flo.tw_step ?_ (fun K hK => ?_)
  · (first | exact Go.Mix.wanted_none rfl | exact Go.Mix.wanted_tt rfl rfl rfl | exact Go.Mix.wanted_ff rfl rfl rfl)
  refine wp_store_mid 123 _ _ rfl b (r * 5) #[.int .u8 (x.s : Nat), .int .u8 (x.u : Nat), .int .u16 (x.c : Nat), .int .u32 (x.t : Nat), .slice x.a x.n x.cp] rfl rfl hth size_rq (by simp [Value.oneCell']) ?_
  rw [show (#[.int .u8 (x.s : Nat), .int .u8 (x.u : Nat), .int .u16 (x.c : Nat), .int .u32 (x.t : Nat), .slice x.a x.n x.cp] : Array Value).toList = x.cs from rfl]
  refine hK _ _ ?_
  clear hK K
  refine Go.Flo.tw_nil ?_
  have h3 := H2.out.setSlot hrn x
  have K3 := Lib.hid (K2.out.sets (x := b) (.inr rfl) x.cs (r * 5))
  obtain ⟨w3, hw3⟩ : ∃ w3, w3 = w2.setCells b (r * 5) x.cs := ⟨_, rfl⟩
  rw [← hw3] at h3 K3
  rw [← hw3]
  have c2 := h3.c2
  have f2 := h3.fz 2
  have H3 := Lib.hid h3
  have hcI : (c : Int) + 1 = ((c + 1 : Nat) : Int) := by omega
  have HCI := Lib.hid hcI
  clear hw3 h3 hth hcI H2 K2
  go_wp2
  go_end0
  have h4 := H3.out.setCount (c + 1) (by omega)
  rw [← HCI.out] at h4
  refine ⟨⟨_, rfl⟩, ?_, ?_⟩
  · rw [← HR.out]; exact h4
  · exact K3.out.set (a := ⟨g, 2, none⟩) (.inl rfl) _
set_option maxHeartbeats 1000000 in
theorem iPop_none (h : RingP w g b n f 0 d sl) : Calls Try.prog 67 #[.pointer (some ⟨g, 0, none⟩)] w fun e w' => e = .returned (.tuple #[.agg #[.int .u8 (rq0.s : Nat), .int .u8 (rq0.u : Nat), .int .u16 (rq0.c : Nat), .int .u32 (rq0.t : Nat), .slice rq0.a rq0.n rq0.cp], .bool false]) ∧ Below w.heap.size w w' := by
  have H := Lib.hid h
  clear h
  have hz := zero_rq
  go_enter Try.func67, Try.ntmps67
  have hal : Below w.heap.size w (w.alloc (.cells #[.int .u8 (rq0.s : Nat), .int .u8 (rq0.u : Nat), .int .u16 (rq0.c : Nat), .int .u32 (rq0.t : Nat), .slice rq0.a rq0.n rq0.cp] 123)) := (Below.refl _ _).alloc (Nat.le_refl _) _
  have hal2 : Below w.heap.size w ((w.alloc (.cells #[.int .u8 (rq0.s : Nat), .int .u8 (rq0.u : Nat), .int .u16 (rq0.c : Nat), .int .u32 (rq0.t : Nat), .slice rq0.a rq0.n rq0.cp] 123)).alloc (.cells #[.int .u8 (rq0.s : Nat), .int .u8 (rq0.u : Nat), .int .u16 (rq0.c : Nat), .int .u32 (rq0.t : Nat), .slice rq0.a rq0.n rq0.cp] 123)) := hal.alloc hal.size _
  go_wp2_with fail
  go_at_call 70
  refine (iLen_any (H.out.below hal2 (Nat.le_refl _))).mono ?_
  rintro e w' ⟨rfl, rfl⟩
  go_wp2_with (first | (refine wpList_load_row rfl 123 _ rfl _ rfl _ _ _ _ (by (first | exact heap_alloc2_new _ _ _ | exact heap_alloc2_old _ _ _ | exact heap_alloc_new _ _ | assumption)) Try.underlying123 rfl (by exact size_rq) ?_; (try go_simp)) | (refine wpList_store_row rfl 123 _ _ rfl _ _ rfl rfl _ _ (by (first | exact heap_alloc2_new _ _ _ | exact heap_alloc2_old _ _ _ | exact heap_alloc_new _ _ | assumption)) (by exact size_rq) (by rfl) (by simp [Value.oneCell']) ?_; (first | rw [setRow_alloc2_new] | rw [setRow_alloc2_old] | rw [World.setRow_alloc_new] | skip); (try go_simp)))
  refine bodyPost_ret (results_cell_tmp2 rfl _ _ _ _ _ _ rfl (heap_alloc2_old _ _ _) Try.underlying123 rfl size_rq) rfl ?_
  exact ⟨rfl, by repeat' (first | (with_reducible exact Below.refl _ _) | (with_reducible assumption) | (with_reducible refine Below.setCell ?_ ?_ _) | (with_reducible refine Below.alloc ?_ ?_ _) | (with_reducible refine Below.drew ?_) | (with_reducible refine Below.drawsN ?_ _) | go_size)⟩
set_option maxRecDepth 100000 in
set_option maxHeartbeats 1000000 in
theorem iPop_some (h : RingP w g b n f (c + 1) d sl) : Calls Try.prog 67 #[.pointer (some ⟨g, 0, none⟩)] w fun e w' => e = .returned (.tuple #[.agg #[.int .u8 ((sl.getD f rq0).s : Nat), .int .u8 ((sl.getD f rq0).u : Nat), .int .u16 ((sl.getD f rq0).c : Nat), .int .u32 ((sl.getD f rq0).t : Nat), .slice (sl.getD f rq0).a (sl.getD f rq0).n (sl.getD f rq0).cp], .bool true]) ∧ RingP w' g b n ((f + 1) % n) c d (sl.set f rq0) ∧ Kept g b w w' := by
  have hn1 := h.n1
  have hn2 := h.n2
  have hf := h.hf
  have hcn := h.hc
  obtain ⟨r, hr⟩ : ∃ r, r = (f + 1) % n := ⟨_, rfl⟩
  have hrn : r < n := by rw [hr]; exact Nat.mod_lt _ (by omega)
  obtain ⟨x, hx⟩ : ∃ x, x = sl.getD f rq0 := ⟨_, rfl⟩
  have H := Lib.hid h
  have HR := Lib.hid hr
  have HX := Lib.hid hx
  have hcz : (((c + 1 : Nat) : Int) == 0) = false := by rw [beq_eq_false_iff_ne]; omega
  obtain ⟨cc, hcc⟩ : ∃ cc, cc = c + 1 := ⟨_, rfl⟩
  have HCC := Lib.hid hcc
  have hz : ((cc : Int) == 0) = false := by rw [hcc]; exact hcz
  clear h hr hcz
  rw [← hcc] at H
  rw [← hcc] at hcn
  clear hcc
  rw [← hx]
  clear hx
  go_enter Try.func67, Try.ntmps67
  have hal : Below w.heap.size w (w.alloc (.cells #[.int .u8 (rq0.s : Nat), .int .u8 (rq0.u : Nat), .int .u16 (rq0.c : Nat), .int .u32 (rq0.t : Nat), .slice rq0.a rq0.n rq0.cp] 123)) := (Below.refl _ _).alloc (Nat.le_refl _) _
  have hal2 : Below w.heap.size w ((w.alloc (.cells #[.int .u8 (rq0.s : Nat), .int .u8 (rq0.u : Nat), .int .u16 (rq0.c : Nat), .int .u32 (rq0.t : Nat), .slice rq0.a rq0.n rq0.cp] 123)).alloc (.cells #[.int .u8 (rq0.s : Nat), .int .u8 (rq0.u : Nat), .int .u16 (rq0.c : Nat), .int .u32 (rq0.t : Nat), .slice rq0.a rq0.n rq0.cp] 123)) := hal.alloc hal.size _
  have hb0 := heap_alloc2_old w (.cells #[.int .u8 (rq0.s : Nat), .int .u8 (rq0.u : Nat), .int .u16 (rq0.c : Nat), .int .u32 (rq0.t : Nat), .slice rq0.a rq0.n rq0.cp] 123) (.cells #[.int .u8 (rq0.s : Nat), .int .u8 (rq0.u : Nat), .int .u16 (rq0.c : Nat), .int .u32 (rq0.t : Nat), .slice rq0.a rq0.n rq0.cp] 123)
  have hb1 := heap_alloc2_new w (.cells #[.int .u8 (rq0.s : Nat), .int .u8 (rq0.u : Nat), .int .u16 (rq0.c : Nat), .int .u32 (rq0.t : Nat), .slice rq0.a rq0.n rq0.cp] 123) (.cells #[.int .u8 (rq0.s : Nat), .int .u8 (rq0.u : Nat), .int .u16 (rq0.c : Nat), .int .u32 (rq0.t : Nat), .slice rq0.a rq0.n rq0.cp] 123)
  have hzr := zero_rq
  go_wp2_with fail
  go_at_call 70
  refine (iLen_any (H.out.below hal2 (Nat.le_refl _))).mono ?_
  rintro e w' ⟨rfl, rfl⟩
  clear hzr
  obtain ⟨w1, hw1⟩ : ∃ w1, w1 = (w.alloc (.cells #[.int .u8 (rq0.s : Nat), .int .u8 (rq0.u : Nat), .int .u16 (rq0.c : Nat), .int .u32 (rq0.t : Nat), .slice rq0.a rq0.n rq0.cp] 123)).alloc (.cells #[.int .u8 (rq0.s : Nat), .int .u8 (rq0.u : Nat), .int .u16 (rq0.c : Nat), .int .u32 (rq0.t : Nat), .slice rq0.a rq0.n rq0.cp] 123) := ⟨_, rfl⟩
  obtain ⟨x0, hx0⟩ : ∃ x0, x0 = w.heap.size := ⟨_, rfl⟩
  obtain ⟨x1, hx1⟩ : ∃ x1, x1 = w.heap.size + 1 := ⟨_, rfl⟩
  rw [← hw1] at hal2 hb0 hb1
  rw [← hx0] at hb0 hb1 hx1
  rw [← hx1] at hb1
  rw [← hw1, ← hx0]
  rw [← hx1]
  have hx0n : w.heap.size ≤ x0 := by omega
  have hx1n : w.heap.size ≤ x1 := by omega
  have hx01 : x0 ≠ x1 := by omega
  have hgx : g < x0 := by rw [hx0]; exact box_lt H.out.head
  have hbx : b < x0 := by rw [hx0]; exact H.out.hb
  have h1 := H.out.below hal2 (Nat.le_refl _)
  have K1 := Lib.hid (Kept.of_below (g := g) (b := b) hal2)
  have H1 := Lib.hid h1
  have hgw := box_lt h1.head
  have hbw := h1.hb
  have hx0w := box_lt hb0
  have hx1w := box_lt hb1
  have d0 := h1.c0
  have d1 := h1.c1
  have dr := h1.row f hf
  rw [← HX.out] at dr
  clear h1 hal hal2 H hw1 hx0 hx1
  go_wp2_with fail
  obtain ⟨I, W, hne, hWI, hIW⟩ := Go.Mix.family (fun v => Below w1.heap.size w1 v) (Below.refl _ _)
  have HJ := Lib.hid hIW
  have HW := Lib.hid hWI
  clear hWI hIW
  refine Go.Flo.wp_region (fun w' => ∃ i, w' = W i) 11 [Go.Flo.Spec.ptr w1.heap.size #[.int .u8 (rq0.s : Nat), .int .u8 (rq0.u : Nat), .int .u16 (rq0.c : Nat), .int .u32 (rq0.t : Nat), .slice rq0.a rq0.n rq0.cp] 123] (by kernel_rfl) (by kernel_rfl) (by decide) (by rintro _ w' ⟨i, rfl⟩ hb; exact HJ.out _ ((HW.out i).trans (hb.mono (HW.out i).size))) (HJ.out _ (Below.refl _ _).drew) ?_
  simp only [Go.Flo.pair, Go.Mix.calm, List.take, List.drop, if_true, Bool.false_eq_true, if_false, Nat.reduceAdd, Nat.reduceSub]
  have e0 : ∀ i, (W i).cell? ⟨g, 0, none⟩ = some (.slice (some ⟨b, 0, none⟩) n n) := fun i => ((HW.out i).cell (p := ⟨g, 0, none⟩) hgw).trans d0
  have e1 : ∀ i, (W i).cell? ⟨g, 1, none⟩ = some (.int .i64 (f : Nat)) := fun i => ((HW.out i).cell (p := ⟨g, 1, none⟩) hgw).trans d1
  (repeat (first | (refine Go.Flo.fw_calm rfl ?_ (fun K hK => ?_); (first | exact Go.Mix.wanted_none rfl | exact Go.Mix.wanted_tt rfl rfl rfl | exact Go.Mix.wanted_ff rfl rfl rfl); go_big_quiet_op; refine hK _ ?_; clear hK K) | (refine Go.Flo.fw_skip ?_ (fun K hK => ?_); (first | exact Go.Mix.wanted_tf rfl rfl rfl | exact Go.Mix.wanted_ft rfl rfl rfl); go_simp; refine hK _ ?_; clear hK K) | (refine Go.Flo.fw_any rfl ?_ (fun K hK => ?_); (first | exact Go.Mix.wanted_none rfl | exact Go.Mix.wanted_tt rfl rfl rfl | exact Go.Mix.wanted_ff rfl rfl rfl); go_simp; (try (go_ints; try go_simp)); refine hK _ ?_; clear hK K)))
  (refine Go.Flo.fw_calm rfl ?_ (fun K hK => ?_); (first | exact Go.Mix.wanted_none rfl | exact Go.Mix.wanted_tt rfl rfl rfl | exact Go.Mix.wanted_ff rfl rfl rfl); refine Go.Flo.quiet_load_mid 123 _ rfl b (f * 5) rfl x.cs (by rintro _ ⟨i, rfl⟩; exact range_block dr ((HW.out i).block b hbw)) Try.underlying123 rfl size_rq ?_; rw [show (x.cs).toArray = #[.int .u8 (x.s : Nat), .int .u8 (x.u : Nat), .int .u16 (x.c : Nat), .int .u32 (x.t : Nat), .slice x.a x.n x.cp] from rfl]; go_simp; refine hK _ ?_; clear hK K)
  (repeat (first | (refine Go.Flo.fw_calm rfl ?_ (fun K hK => ?_); (first | exact Go.Mix.wanted_none rfl | exact Go.Mix.wanted_tt rfl rfl rfl | exact Go.Mix.wanted_ff rfl rfl rfl); go_big_quiet_op; refine hK _ ?_; clear hK K) | (refine Go.Flo.fw_skip ?_ (fun K hK => ?_); (first | exact Go.Mix.wanted_tf rfl rfl rfl | exact Go.Mix.wanted_ft rfl rfl rfl); go_simp; refine hK _ ?_; clear hK K) | (refine Go.Flo.fw_any rfl ?_ (fun K hK => ?_); (first | exact Go.Mix.wanted_none rfl | exact Go.Mix.wanted_tt rfl rfl rfl | exact Go.Mix.wanted_ff rfl rfl rfl); go_simp; (try (go_ints; try go_simp)); refine hK _ ?_; clear hK K)))
  refine Go.Flo.fw_loud rfl ?_ rfl (by simp) (fun wv hwv hav K hK => ?_) (fun v hv K hK => ?_)
  · (first | exact Go.Mix.wanted_none rfl | exact Go.Mix.wanted_tt rfl rfl rfl | exact Go.Mix.wanted_ff rfl rfl rfl)
  · obtain ⟨iv, rfl⟩ := hwv
    (first | go_big_op | go_simp)
    refine hK _ _ (Go.Flo.owes_ptr (HW.out iv).size)
  obtain ⟨x2, hx2, rfl, hnx2⟩ := hv.ptr rfl
  go_simp
  refine hK _ ?_
  clear hK K hv
  (repeat (first | (refine Go.Flo.fw_calm rfl ?_ (fun K hK => ?_); (first | exact Go.Mix.wanted_none rfl | exact Go.Mix.wanted_tt rfl rfl rfl | exact Go.Mix.wanted_ff rfl rfl rfl); go_big_quiet_op; refine hK _ ?_; clear hK K) | (refine Go.Flo.fw_skip ?_ (fun K hK => ?_); (first | exact Go.Mix.wanted_tf rfl rfl rfl | exact Go.Mix.wanted_ft rfl rfl rfl); go_simp; refine hK _ ?_; clear hK K) | (refine Go.Flo.fw_any rfl ?_ (fun K hK => ?_); (first | exact Go.Mix.wanted_none rfl | exact Go.Mix.wanted_tt rfl rfl rfl | exact Go.Mix.wanted_ff rfl rfl rfl); go_simp; (try (go_ints; try go_simp)); refine hK _ ?_; clear hK K)))
  refine Go.Flo.fw_nil ?_
  intro w2 hww2 hfw2 huw2
  obtain ⟨iend, hiend⟩ := hww2
  have hbw2 := HW.out iend
  rw [← hiend] at hbw2
  clear hiend iend huw2
  have hC2 := Go.Flo.says_ptr ((hfw2 (some 5)).2 rfl).1
  have hx2w : x2 < w2.heap.size := box_lt hC2
  refine Go.Flo.tw_step ?_ (fun K hK => ?_)
  · (first | exact Go.Mix.wanted_none rfl | exact Go.Mix.wanted_tt rfl rfl rfl | exact Go.Mix.wanted_ff rfl rfl rfl)
  refine wp_store_row 123 (.tmp 5) (.tmp 19) rfl x2 #[.int .u8 (x.s : Nat), .int .u8 (x.u : Nat), .int .u16 (x.c : Nat), .int .u32 (x.t : Nat), .slice x.a x.n x.cp] rfl rfl 123 _ hC2 size_rq rfl (by simp [Value.oneCell']) (hK _ _ ?_)
  clear hK K
  refine Go.Flo.tw_nil ?_
  have hbx2 : b ≠ x2 := by omega
  have hgx2 : g ≠ x2 := by omega
  have hs3 : (w2.setRow x2 #[.int .u8 (x.s : Nat), .int .u8 (x.u : Nat), .int .u16 (x.c : Nat), .int .u32 (x.t : Nat), .slice x.a x.n x.cp]).heap[x2]? = some (.cells #[.int .u8 (x.s : Nat), .int .u8 (x.u : Nat), .int .u16 (x.c : Nat), .int .u32 (x.t : Nat), .slice x.a x.n x.cp] 123 (0, 0)) := setRow_heap _ _ _ _ _ _ hC2
  have hk3 : ∀ k, k < w1.heap.size → (w2.setRow x2 #[.int .u8 (x.s : Nat), .int .u8 (x.u : Nat), .int .u16 (x.c : Nat), .int .u32 (x.t : Nat), .slice x.a x.n x.cp]).heap[k]? = w1.heap[k]? := fun k hk => (setRow_other _ x2 k _ (by omega)).trans (hbw2.block k hk)
  have H3 := Lib.hid (H1.out.same (hk3 g hgw) (hk3 b hbw))
  have hz3 : w1.heap.size ≤ (w2.setRow x2 #[.int .u8 (x.s : Nat), .int .u8 (x.u : Nat), .int .u16 (x.c : Nat), .int .u32 (x.t : Nat), .slice x.a x.n x.cp]).heap.size := by simpa [World.setRow] using hbw2.size
  have K3 : Kept g b w (w2.setRow x2 #[.int .u8 (x.s : Nat), .int .u8 (x.u : Nat), .int .u16 (x.c : Nat), .int .u32 (x.t : Nat), .slice x.a x.n x.cp]) := K1.out.trans ⟨hbw2.os, hbw2.tape, hbw2.output, hz3, fun k hk _ _ => hk3 k hk⟩
  have hb30 := (hk3 x0 hx0w).trans hb0
  have hb31 := (hk3 x1 hx1w).trans hb1
  obtain ⟨w3, hw3⟩ : ∃ w3, w3 = w2.setRow x2 #[.int .u8 (x.s : Nat), .int .u8 (x.u : Nat), .int .u16 (x.c : Nat), .int .u32 (x.t : Nat), .slice x.a x.n x.cp] := ⟨_, rfl⟩
  rw [← hw3] at hs3 H3 hz3 hb30 hb31 K3
  rw [← hw3]
  have K3 := Lib.hid K3
  clear hfw2 HJ HW hne e0 e1 hC2 hbw2 hk3 hw3 hb0 hb1 d0 d1 dr hnx2 K1 H1
  clear W I
  have h3 := H3.out
  have hgw3 := box_lt h3.head
  have hbw3 := h3.hb
  have hx13w := box_lt hb31
  have d0 := h3.c0
  have d1 := h3.c1
  clear h3
  go_wp2_with fail
  obtain ⟨I, W, hne, hWI, hIW⟩ := Go.Mix.family (fun v => Below w3.heap.size w3 v) (Below.refl _ _)
  have HJ := Lib.hid hIW
  have HW := Lib.hid hWI
  clear hWI hIW
  refine Go.Flo.wp_region (fun w' => ∃ i, w' = W i) 10 [Go.Flo.dflt] (by kernel_rfl) (by kernel_rfl) (by decide) (by rintro _ w' ⟨i, rfl⟩ hb; exact HJ.out _ ((HW.out i).trans (hb.mono (HW.out i).size))) (HJ.out _ (Below.refl _ _).drew) ?_
  simp only [Go.Flo.pair, Go.Mix.calm, List.take, List.drop, if_true, Bool.false_eq_true, if_false, Nat.reduceAdd, Nat.reduceSub]
  have e0 : ∀ i, (W i).cell? ⟨g, 0, none⟩ = some (.slice (some ⟨b, 0, none⟩) n n) := fun i => ((HW.out i).cell (p := ⟨g, 0, none⟩) hgw3).trans d0
  have e1 : ∀ i, (W i).cell? ⟨g, 1, none⟩ = some (.int .i64 (f : Nat)) := fun i => ((HW.out i).cell (p := ⟨g, 1, none⟩) hgw3).trans d1
  (repeat (first | (refine Go.Flo.fw_calm rfl ?_ (fun K hK => ?_); (first | exact Go.Mix.wanted_none rfl | exact Go.Mix.wanted_tt rfl rfl rfl | exact Go.Mix.wanted_ff rfl rfl rfl); go_big_quiet_op; refine hK _ ?_; clear hK K) | (refine Go.Flo.fw_skip ?_ (fun K hK => ?_); (first | exact Go.Mix.wanted_tf rfl rfl rfl | exact Go.Mix.wanted_ft rfl rfl rfl); go_simp; refine hK _ ?_; clear hK K) | (refine Go.Flo.fw_any rfl ?_ (fun K hK => ?_); (first | exact Go.Mix.wanted_none rfl | exact Go.Mix.wanted_tt rfl rfl rfl | exact Go.Mix.wanted_ff rfl rfl rfl); go_simp; (try (go_ints; try go_simp)); refine hK _ ?_; clear hK K)))
  (refine Go.Flo.fw_calm rfl ?_ (fun K hK => ?_); (first | exact Go.Mix.wanted_none rfl | exact Go.Mix.wanted_tt rfl rfl rfl | exact Go.Mix.wanted_ff rfl rfl rfl); refine Go.Flo.quiet_load_row 123 _ rfl x1 rfl _ #[.int .u8 (rq0.s : Nat), .int .u8 (rq0.u : Nat), .int .u16 (rq0.c : Nat), .int .u32 (rq0.t : Nat), .slice rq0.a rq0.n rq0.cp] _ (by rintro _ ⟨i, rfl⟩; exact ((HW.out i).block x1 hx13w).trans hb31) Try.underlying123 rfl size_rq ?_; go_simp; refine hK _ ?_; clear hK K)
  (repeat (first | (refine Go.Flo.fw_calm rfl ?_ (fun K hK => ?_); (first | exact Go.Mix.wanted_none rfl | exact Go.Mix.wanted_tt rfl rfl rfl | exact Go.Mix.wanted_ff rfl rfl rfl); go_big_quiet_op; refine hK _ ?_; clear hK K) | (refine Go.Flo.fw_skip ?_ (fun K hK => ?_); (first | exact Go.Mix.wanted_tf rfl rfl rfl | exact Go.Mix.wanted_ft rfl rfl rfl); go_simp; refine hK _ ?_; clear hK K) | (refine Go.Flo.fw_any rfl ?_ (fun K hK => ?_); (first | exact Go.Mix.wanted_none rfl | exact Go.Mix.wanted_tt rfl rfl rfl | exact Go.Mix.wanted_ff rfl rfl rfl); go_simp; (try (go_ints; try go_simp)); refine hK _ ?_; clear hK K)))
  refine Go.Flo.fw_nil ?_
  intro w4 hww4 hfw4 huw4
  obtain ⟨iend, hiend⟩ := hww4
  have hbw4 := HW.out iend
  rw [← hiend] at hbw4
  clear hiend iend huw4
  have h4 := H3.out.below hbw4 (Nat.le_refl _)
  have hth := h4.there hf
  have hb40 := box_below hb30 hbw4 (box_lt hb30)
  have hb42 := box_below hs3 hbw4 (box_lt hs3)
  have K4 := Lib.hid (K3.out.trans (Kept.of_below (g := g) (b := b) hbw4))
  have H4 := Lib.hid h4
  clear hfw4 HJ HW hne e0 e1 d0 d1 h4 hbw4 hb30 hb31 hs3 K3 H3
  clear W I
  refine Go.Flo.tw_step ?_ (fun K hK => ?_)
  · (first | exact Go.Mix.wanted_none rfl | exact Go.Mix.wanted_tt rfl rfl rfl | exact Go.Mix.wanted_ff rfl rfl rfl)
  refine wp_store_mid 123 _ _ rfl b (f * 5) #[.int .u8 (rq0.s : Nat), .int .u8 (rq0.u : Nat), .int .u16 (rq0.c : Nat), .int .u32 (rq0.t : Nat), .slice rq0.a rq0.n rq0.cp] rfl rfl hth size_rq (by simp [Value.oneCell']) ?_
  rw [show (#[.int .u8 (rq0.s : Nat), .int .u8 (rq0.u : Nat), .int .u16 (rq0.c : Nat), .int .u32 (rq0.t : Nat), .slice rq0.a rq0.n rq0.cp] : Array Value).toList = rq0.cs from rfl]
  refine hK _ _ ?_
  clear hK K
  refine Go.Flo.tw_nil ?_
  have h5 := H4.out.setSlot hf rq0
  have K5 := Lib.hid (K4.out.sets (x := b) (.inr rfl) rq0.cs (f * 5))
  have hb50 := (heap_setCells_other b rq0.cs (f * 5) w4 x0 (by omega)).trans hb40
  have hb52 := (heap_setCells_other b rq0.cs (f * 5) w4 x2 (Ne.symm hbx2)).trans hb42
  obtain ⟨w5, hw5⟩ : ∃ w5, w5 = w4.setCells b (f * 5) rq0.cs := ⟨_, rfl⟩
  rw [← hw5] at h5 K5 hb50 hb52
  rw [← hw5]
  have H5 := Lib.hid h5
  clear hw5 h5 hth hb40 hb42 K4 H4
  go_wp2_with fail
  go_at_call 87
  refine (islot_any H5.out 1 (by omega)).mono ?_
  rintro e w6 ⟨rfl, q6, rfl⟩
  rw [← HR.out]
  have h6 := H5.out.drewN q6
  have K6 := Lib.hid (K5.out.drewN q6)
  have hb60 : (w5.drewN q6).heap[x0]? = _ := hb50
  have hb62 : (w5.drewN q6).heap[x2]? = _ := hb52
  obtain ⟨w6, hw6⟩ : ∃ w6, w6 = w5.drewN q6 := ⟨_, rfl⟩
  rw [← hw6] at h6 K6 hb60 hb62
  rw [← hw6]
  clear hw6 hb50 hb52 K5 H5
  have d1 := h6.c1
  have d2 := h6.c2
  have f1 := h6.fz 1
  have f2 := h6.fz 2
  have hcI : ((cc : Int) - 1) = ((c : Nat) : Int) := by rw [HCC.out]; omega
  have h7 := (h6.setFirst r hrn).setCount c (by have := HCC.out; omega)
  have K7 := (K6.out.set (a := ⟨g, 1, none⟩) (.inl rfl) (.int .i64 (r : Nat))).set (a := ⟨g, 2, none⟩) (.inl rfl) (.int .i64 (c : Nat))
  have hb70 : ((w6.setCell ⟨g, 1, none⟩ (.int .i64 (r : Nat))).setCell ⟨g, 2, none⟩ (.int .i64 (c : Nat))).heap[x0]? = _ := (heap_setCell_other _ ⟨g, 2, none⟩ x0 _ (by show x0 ≠ g; omega)).trans ((heap_setCell_other _ ⟨g, 1, none⟩ x0 _ (by show x0 ≠ g; omega)).trans hb60)
  have hb72 : ((w6.setCell ⟨g, 1, none⟩ (.int .i64 (r : Nat))).setCell ⟨g, 2, none⟩ (.int .i64 (c : Nat))).heap[x2]? = _ := (heap_setCell_other _ ⟨g, 2, none⟩ x2 _ (Ne.symm hgx2)).trans ((heap_setCell_other _ ⟨g, 1, none⟩ x2 _ (Ne.symm hgx2)).trans hb62)
  have H7 := Lib.hid h7
  have K7 := Lib.hid K7
  clear h6 h7 hb60 hb62 K6
  go_wp2_with (first | (refine wpList_load_row rfl 123 _ rfl _ rfl _ _ _ _ hb72 Try.underlying123 rfl (by exact size_rq) ?_; (try go_simp)) | (refine wpList_store_row rfl 123 _ _ rfl _ _ rfl rfl _ _ hb70 (by exact size_rq) (by rfl) (by simp [Value.oneCell']) ?_; (try go_simp)))
  have hfin := setRow_heap _ x0 _ #[.int .u8 (x.s : Nat), .int .u8 (x.u : Nat), .int .u16 (x.c : Nat), .int .u32 (x.t : Nat), .slice x.a x.n x.cp] _ _ hb70
  refine bodyPost_ret (results_cell_tmp2 rfl _ _ _ _ _ _ rfl hfin Try.underlying123 rfl size_rq) rfl ?_
  have hg0 : g ≠ x0 := by omega
  have hb0 : b ≠ x0 := by omega
  refine ⟨rfl, by rw [← HR.out]; exact H7.out.same (setRow_other _ x0 g _ hg0) (setRow_other _ x0 b _ hb0), ?_⟩
  have k := K7.out
  exact ⟨k.os, k.tape, k.output, by simpa [World.setRow] using k.size, fun i hi h1 h2 => (setRow_other _ x0 i _ (by omega)).trans (k.block i hi h1 h2)⟩
end Go.Proofs.Ytioclbkgfbjpdaa
