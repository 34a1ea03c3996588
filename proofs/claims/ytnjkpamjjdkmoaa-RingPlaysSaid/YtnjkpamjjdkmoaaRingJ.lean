/- Contracts of layer 3 (rings of ints), on: put in and taken out. -/
import Derived.Test.YtnjkpamjjdkmoaaRingI
namespace Go.Proofs.Ytnjkpamjjdkmoaa
open Go.RowKit Go.Own
set_option linter.unusedVariables false
set_option linter.unusedSimpArgs false
variable {w : World} {g b n f c l d : Nat} {sl : List Int}

/-- The ring with other numbers, and other slots. -/
theorem RingS.headSet (h : RingS w g b n f c l d sl) {f' c' l' d' : Nat} {w' : World} (hh : w'.heap[g]? = some (.cells #[.slice (some ⟨b, 0, none⟩) n n, .int .i64 (f' : Nat), .int .i64 (c' : Nat), .int .i64 (l' : Nat), .int .i64 (d' : Nat)] 167 (0, 0)))
    (hr : w'.heap[b]? = some (.cells (il sl).toArray 3 (0, 0))) (hf : f' < n) (hc : c' ≤ n) (hl : l' ≤ 65535) (hd : d' ≤ 65535) : RingS w' g b n f' c' l' d' sl :=
  ⟨hh, hr, h.len, h.n1, h.n2, hf, hc, hl, hd⟩
theorem RingS.setFirst (h : RingS w g b n f c l d sl) (f' : Nat) (hf : f' < n) : RingS (w.setCell ⟨g, 1, none⟩ (.int .i64 (f' : Nat))) g b n f' c l d sl :=
  h.headSet (heap_setCell_same w g 1 _ _ _ h.head) ((heap_setCell_other w ⟨g, 1, none⟩ b _ (Ne.symm h.ne)).trans h.row) hf h.hc h.hl h.hd
theorem RingS.setCount (h : RingS w g b n f c l d sl) (c' : Nat) (hc : c' ≤ n) : RingS (w.setCell ⟨g, 2, none⟩ (.int .i64 (c' : Nat))) g b n f c' l d sl :=
  h.headSet (heap_setCell_same w g 2 _ _ _ h.head) ((heap_setCell_other w ⟨g, 2, none⟩ b _ (Ne.symm h.ne)).trans h.row) h.hf hc h.hl h.hd
theorem RingS.setLost (h : RingS w g b n f c l d sl) (l' : Nat) (hl : l' ≤ 65535) : RingS (w.setCell ⟨g, 3, none⟩ (.int .i64 (l' : Nat))) g b n f c l' d sl :=
  h.headSet (heap_setCell_same w g 3 _ _ _ h.head) ((heap_setCell_other w ⟨g, 3, none⟩ b _ (Ne.symm h.ne)).trans h.row) h.hf h.hc hl h.hd
theorem RingS.setDropped (h : RingS w g b n f c l d sl) (d' : Nat) (hd : d' ≤ 65535) : RingS (w.setCell ⟨g, 4, none⟩ (.int .i64 (d' : Nat))) g b n f c l d' sl :=
  h.headSet (heap_setCell_same w g 4 _ _ _ h.head) ((heap_setCell_other w ⟨g, 4, none⟩ b _ (Ne.symm h.ne)).trans h.row) h.hf h.hc h.hl hd
theorem RingS.setSlot (h : RingS w g b n f c l d sl) (i : Nat) (x : Int) : RingS (w.setCell ⟨b, i, none⟩ (.int .i64 x)) g b n f c l d (sl.set i x) := by
  have e := heap_setCell_same w b i _ _ (.int .i64 x) h.row
  have e2 : (il sl).toArray.setIfInBounds i (.int .i64 x) = (il (sl.set i x)).toArray := by rw [← il_set]; simp
  rw [e2] at e
  exact ⟨(heap_setCell_other w ⟨b, i, none⟩ g _ h.ne).trans h.head, e, by rw [List.length_set]; exact h.len, h.n1, h.n2, h.hf, h.hc, h.hl, h.hd⟩
theorem RingS.drew (h : RingS w g b n f c l d sl) : RingS w.drew g b n f c l d sl := ⟨h.head, h.row, h.len, h.n1, h.n2, h.hf, h.hc, h.hl, h.hd⟩

set_option maxRecDepth 100000 in
set_option maxHeartbeats 1000000 in
theorem iput_any (x : Int) (h : RingS w g b n f c l d sl) (hc : c < n) : Calls Try.prog 129 #[.pointer (some ⟨g, 0, none⟩), .int .i64 x] w fun e w' => (∃ v, e = .returned v) ∧ RingS w' g b n f (c + 1) l d (sl.set ((f + c) % n) x) ∧ Kept g b w w' := by
  have hn1 := h.n1
  have hn2 := h.n2
  obtain ⟨r, hr⟩ : ∃ r, r = (f + c) % n := ⟨_, rfl⟩
  have hrn : r < n := by rw [hr]; exact Nat.mod_lt _ (by omega)
  have H := Lib.hid h
  have HR := Lib.hid hr
  have hgw := box_lt h.head
  have hbw := box_lt h.row
  have d0 := h.c0
  have d2 := h.c2
  clear h hr
  go_enter Try.func129, Try.ntmps129
  go_wp2
  obtain ⟨I, W, hne, hWI, hIW⟩ := Go.Mix.family (fun v => Below w.heap.size w v) (Below.refl _ _)
  have HJ := Lib.hid hIW
  have HW := Lib.hid hWI
  clear hWI hIW
  refine Go.Flo.wp_region (fun w' => ∃ i, w' = W i) 12 [Go.Flo.Spec.is (.int .i64 (r : Nat))] (by kernel_rfl) (by kernel_rfl) (by decide) (by rintro _ w' ⟨i, rfl⟩ hb; exact HJ.out _ ((HW.out i).trans (hb.mono (HW.out i).size))) (HJ.out _ (Below.refl _ _).drew) ?_
  simp only [Go.Flo.pair, Go.Mix.calm, List.take, List.drop, if_true, Bool.false_eq_true, if_false, Nat.reduceAdd, Nat.reduceSub]
  have e0 : ∀ i, (W i).cell? ⟨g, 0, none⟩ = some (.slice (some ⟨b, 0, none⟩) n n) := fun i => ((HW.out i).cell (p := ⟨g, 0, none⟩) hgw).trans d0
  have e2 : ∀ i, (W i).cell? ⟨g, 2, none⟩ = some (.int .i64 (c : Nat)) := fun i => ((HW.out i).cell (p := ⟨g, 2, none⟩) hgw).trans d2
  (repeat (first | (refine Go.Flo.fw_calm rfl ?_ (fun K hK => ?_); (first | exact Go.Mix.wanted_none rfl | exact Go.Mix.wanted_tt rfl rfl rfl | exact Go.Mix.wanted_ff rfl rfl rfl); go_big_quiet_op; refine hK _ ?_; clear hK K) | (refine Go.Flo.fw_skip ?_ (fun K hK => ?_); (first | exact Go.Mix.wanted_tf rfl rfl rfl | exact Go.Mix.wanted_ft rfl rfl rfl); go_simp; refine hK _ ?_; clear hK K) | (refine Go.Flo.fw_any rfl ?_ (fun K hK => ?_); (first | exact Go.Mix.wanted_none rfl | exact Go.Mix.wanted_tt rfl rfl rfl | exact Go.Mix.wanted_ff rfl rfl rfl); go_simp; (try (go_ints; try go_simp)); refine hK _ ?_; clear hK K)))
  refine Go.Flo.fw_loud rfl ?_ rfl (by simp) (fun wv hwv hav K hK => ?_) (fun v hv K hK => ?_)
  · (first | exact Go.Mix.wanted_none rfl | exact Go.Mix.wanted_tt rfl rfl rfl | exact Go.Mix.wanted_ff rfl rfl rfl)
  · obtain ⟨iv, rfl⟩ := hwv
    have hbv := HW.out iv
    (first | go_big_op | go_simp)
    go_at_call 97
    refine (islot_any (H.out.below hbv (Nat.le_refl _)) c (by omega)).mono ?_
    rintro e w' ⟨rfl, q, rfl⟩
    rw [← HR.out]
    exact hK _ _ (Go.Flo.owes_is _ rfl (below_drewsI _ _ _))
  obtain rfl := hv.is
  go_simp
  refine hK _ ?_
  clear hK K hv
  (repeat (first | (refine Go.Flo.fw_calm rfl ?_ (fun K hK => ?_); (first | exact Go.Mix.wanted_none rfl | exact Go.Mix.wanted_tt rfl rfl rfl | exact Go.Mix.wanted_ff rfl rfl rfl); go_big_quiet_op; refine hK _ ?_; clear hK K) | (refine Go.Flo.fw_skip ?_ (fun K hK => ?_); (first | exact Go.Mix.wanted_tf rfl rfl rfl | exact Go.Mix.wanted_ft rfl rfl rfl); go_simp; refine hK _ ?_; clear hK K) | (refine Go.Flo.fw_any rfl ?_ (fun K hK => ?_); (first | exact Go.Mix.wanted_none rfl | exact Go.Mix.wanted_tt rfl rfl rfl | exact Go.Mix.wanted_ff rfl rfl rfl); go_simp; (try (go_ints; try go_simp)); refine hK _ ?_; clear hK K)))
  refine Go.Flo.fw_nil ?_
  intro w2 hww2 hfw2 huw2
  obtain ⟨iend, hiend⟩ := hww2
  have hbw2 := HW.out iend
  rw [← hiend] at hbw2
  clear hiend iend huw2
  have h2 := H.out.below hbw2 (Nat.le_refl _)
  have k0 := h2.at hrn
  have k1 := h2.fb r
  have K2 := Lib.hid (Kept.of_below (g := g) (b := b) hbw2)
  have H2 := Lib.hid h2
  clear hfw2 HJ HW hne e0 e2 d0 d2 h2 hbw2
  clear W I
  refine Go.Flo.tw_step ?_ (fun K hK => ?_)
  · (first | exact Go.Mix.wanted_none rfl | exact Go.Mix.wanted_tt rfl rfl rfl | exact Go.Mix.wanted_ff rfl rfl rfl)
  (first | go_big_op | go_simp)
  refine hK _ _ ?_
  clear hK K
  refine Go.Flo.tw_nil ?_
  have h3 := H2.out.setSlot r x
  have K3 := Lib.hid (K2.out.set (a := ⟨b, r, none⟩) (.inr rfl) (.int .i64 x))
  obtain ⟨w3, hw3⟩ : ∃ w3, w3 = w2.setCell ⟨b, r, none⟩ (.int .i64 x) := ⟨_, rfl⟩
  rw [← hw3] at h3 K3
  rw [← hw3]
  have c2 := h3.c2
  have f2 := h3.fz 2
  have H3 := Lib.hid h3
  have hcI : (c : Int) + 1 = ((c + 1 : Nat) : Int) := by omega
  have HCI := Lib.hid hcI
  clear hw3 h3 k0 k1 hcI H2 K2
  go_wp2
  go_end0
  have h4 := H3.out.setCount (c + 1) (by omega)
  rw [← HCI.out] at h4
  refine ⟨⟨_, rfl⟩, ?_, ?_⟩
  · rw [← HR.out]; exact h4
  · exact K3.out.set (a := ⟨g, 2, none⟩) (.inl rfl) _
end Go.Proofs.Ytnjkpamjjdkmoaa
