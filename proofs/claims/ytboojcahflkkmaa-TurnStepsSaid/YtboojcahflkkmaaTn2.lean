/- Layer 20: what one chain has, and the other one hasn't; the law's lists. -/
import Derived.Test.YtboojcahflkkmaaTn
import Derived.Test.YtboojcahflkkmaaFlo3
namespace Go.Proofs.Ytboojcahflkkmaa
open Go.RowKit Go.Own Bs
set_option linter.unusedVariables false
set_option linter.unusedSimpArgs false
theorem own_keepZ {w w' : World} {base : Nat} {e : TypeId} {size : Nat} {v : Value} {n : Nat} {xs : List Value} (h : w.ownsRow base e size v n xs) (hb : Below w.heap.size w w') : w'.ownsRow base e size v n xs := by
  obtain ⟨h1, h2 | ⟨g, cap, cur, hv, hg, hr, ho⟩⟩ := h
  · exact ⟨h1, .inl h2⟩
  · exact ⟨h1, .inr ⟨g, cap, cur, hv, hg, box_below hr hb (box_lt hr), ho⟩⟩
/-- The call's own row of these units. -/
def SpZ (n0 : Nat) (l : List Nat) : Go.Flo.Spec :=
  ⟨fun v w => w.ownsRow n0 3 1 v l.length (zl l), fun v w w' hb h => own_keepZ h hb⟩
theorem owes_Z {o : Oper} {n0 : Nat} {l : List Nat} {w w' : World} {v : Value} {base : Nat} (hm : Go.Flo.makes o = false) (hb : Below w.heap.size w w') (h : w'.ownsRow base 3 1 v l.length (zl l)) (h0 : n0 ≤ base) : Go.Flo.owes o (SpZ n0 l) w v w' :=
  ⟨own_baseZ h h0, hb, fun g hg => by simp [Go.Flo.ownOf, hm] at hg⟩
theorem ex_Z {C : World → Prop} {o : Oper} {n0 : Nat} {l : List Nat} {v : Value} {F : Go.Flo.Facts} {G : Go.Flo.Used} (h : Go.Flo.Ex C o (SpZ n0 l) F G v) : ∃ a c, v = .slice a l.length c := by
  obtain ⟨w, _, _, h1, _⟩ := h
  exact own_form h1
theorem al2T (w : World) (A B : Obj) : ((w.alloc A).alloc B).heap[w.heap.size]? = some A ∧ ((w.alloc A).alloc B).heap[w.heap.size + 1]? = some B := ⟨heap_alloc2_old w A B, heap_alloc2_new w A B⟩
/-- The units of one set that another one hasn't. -/
def lessS (a b : Nat) : Nat := a &&& (65535 - b)
theorem lessS_lt {a b : Nat} (h : a < 65536) : lessS a b < 65536 := Nat.lt_of_le_of_lt Nat.and_le_left h
/-- A chain's numbers. -/
def ChOk (c : Nat → Int) : Prop := ∀ k, k < 6 → -128 ≤ c k ∧ c k < 128
def onlyS (c d : Nat → Int) : Nat := lessS (unitsS c 6) (unitsS d 6)
set_option maxRecDepth 100000 in
set_option maxHeartbeats 2000000 in
theorem only_tn (c d : Nat → Int) (w : World) (hc : ChOk c) (hd : ChOk d) : Calls Try.prog 80 #[.agg #[.int .i8 (c 0), .int .i8 (c 1), .int .i8 (c 2), .int .i8 (c 3), .int .i8 (c 4), .int .i8 (c 5)], .agg #[.int .i8 (d 0), .int .i8 (d 1), .int .i8 (d 2), .int .i8 (d 3), .int .i8 (d 4), .int .i8 (d 5)]] w fun e w' => ∃ v, e = .returned v ∧ w'.ownsRow w.heap.size 3 1 v (upTo (onlyS c d) 16).length (zl (upTo (onlyS c d) 16)) ∧ Below w.heap.size w w' := by
  obtain ⟨h1, h2⟩ := al2T w (.cells #[.int .i8 (c 0), .int .i8 (c 1), .int .i8 (c 2), .int .i8 (c 3), .int .i8 (c 4), .int .i8 (c 5)] 67) (.cells #[.int .i8 (d 0), .int .i8 (d 1), .int .i8 (d 2), .int .i8 (d 3), .int .i8 (d 4), .int .i8 (d 5)] 67)
  have hb0 : Below w.heap.size w ((w.alloc (.cells #[.int .i8 (c 0), .int .i8 (c 1), .int .i8 (c 2), .int .i8 (c 3), .int .i8 (c 4), .int .i8 (c 5)] 67)).alloc (.cells #[.int .i8 (d 0), .int .i8 (d 1), .int .i8 (d 2), .int .i8 (d 3), .int .i8 (d 4), .int .i8 (d 5)] 67)) := by repeat' (first | (with_reducible exact Below.refl _ _) | (with_reducible assumption) | (with_reducible refine Below.setCell ?_ ?_ _) | (with_reducible refine Below.alloc ?_ ?_ _) | (with_reducible refine Below.drew ?_) | (with_reducible refine Below.drawsN ?_ _) | go_size)
  obtain ⟨s, hs⟩ : ∃ s, s = unitsS c 6 := ⟨_, rfl⟩
  obtain ⟨r, hr⟩ : ∃ r, r = unitsS d 6 := ⟨_, rfl⟩
  have hs1 : s < 65536 := by rw [hs]; exact unitsS_lt c 6
  have hr1 : r < 65536 := by rw [hr]; exact unitsS_lt d 6
  obtain ⟨q, hq⟩ : ∃ q, q = onlyS c d := ⟨_, rfl⟩
  have hq2 : q = s &&& (65535 - r) := by rw [hq, hs, hr]; rfl
  have hq1 : q < 65536 := by rw [hq2]; exact Nat.lt_of_le_of_lt Nat.and_le_left hs1
  rw [← hq]
  have HE := Lib.hid (show s = unitsS c 6 ∧ r = unitsS d 6 ∧ q = s &&& (65535 - r) from ⟨hs, hr, hq2⟩)
  have HC := Lib.hid hc
  have HD := Lib.hid hd
  clear hs hr hq hq2 hc hd
  go_enter Try.func80, Try.ntmps80
  go_upto_region 1 with fail
  obtain ⟨w1, hw1⟩ : ∃ w1, w1 = (w.alloc (.cells #[.int .i8 (c 0), .int .i8 (c 1), .int .i8 (c 2), .int .i8 (c 3), .int .i8 (c 4), .int .i8 (c 5)] 67)).alloc (.cells #[.int .i8 (d 0), .int .i8 (d 1), .int .i8 (d 2), .int .i8 (d 3), .int .i8 (d 4), .int .i8 (d 5)] 67) := ⟨_, rfl⟩
  rw [← hw1] at h1 h2 hb0 ⊢
  obtain ⟨g1, hg1⟩ : ∃ g, g = w.heap.size + 1 := ⟨_, rfl⟩
  rw [← hg1] at h2 ⊢
  have HB := Lib.hid hb0
  have l1 := box_lt h1
  have l2 := box_lt h2
  clear hw1 hg1 hb0
  obtain ⟨I, W, hne, hWI, hIW⟩ := Go.Mix.family (fun v => Below w1.heap.size w1 v) (Below.refl _ _)
  have HJ := Lib.hid hIW
  have HW := Lib.hid hWI
  clear hWI hIW
  refine Go.Flo.wp_region (fun w' => ∃ i, w' = W i) 7 [Go.Flo.Spec.is (.int .u16 (s : Nat)), Go.Flo.Spec.is (.int .u16 (r : Nat)), Go.Flo.Spec.is (.int .u16 (q : Nat)), SpZ w.heap.size (upTo q 16)] (by kernel_rfl) (by kernel_rfl) (by decide) (by rintro _ w' ⟨i, rfl⟩ hb; exact HJ.out _ ((HW.out i).trans (hb.mono (HW.out i).size))) (HJ.out _ (Below.refl _ _).drew) ?_
  simp only [Go.Flo.pair, Go.Mix.calm, List.take, List.drop, if_true, Bool.false_eq_true, if_false, Nat.reduceAdd, Nat.reduceSub]
  (refine Go.Flo.fw_calm rfl ?_ (fun K hK => ?_); (first | exact Go.Mix.wanted_none rfl | exact Go.Mix.wanted_tt rfl rfl rfl | exact Go.Mix.wanted_ff rfl rfl rfl); refine Go.Flo.quiet_load_row 67 _ rfl w.heap.size rfl _ #[.int .i8 (c 0), .int .i8 (c 1), .int .i8 (c 2), .int .i8 (c 3), .int .i8 (c 4), .int .i8 (c 5)] _ (by rintro _ ⟨i, rfl⟩; exact ((HW.out i).block _ l1).trans h1) Try.underlying67 rfl size_ch ?_; go_simp; refine hK _ ?_; clear hK K)
  refine Go.Flo.fw_loud rfl ?_ rfl (by simp) (fun wv hwv hav K hK => ?_) (fun v hv K hK => ?_)
  · (first | exact Go.Mix.wanted_none rfl | exact Go.Mix.wanted_tt rfl rfl rfl | exact Go.Mix.wanted_ff rfl rfl rfl)
  · obtain ⟨iv, rfl⟩ := hwv
    have hbv := HW.out iv
    (first | go_big_op | go_simp)
    go_at_call 34
    refine (Units_any c _ HC.out).mono ?_
    rintro e w' ⟨rfl, hb⟩
    rw [← HE.out.1]
    exact hK _ _ (Go.Flo.owes_is _ rfl hb)
  obtain rfl := hv.is
  go_simp
  refine hK _ ?_
  clear hK K hv
  (refine Go.Flo.fw_calm rfl ?_ (fun K hK => ?_); (first | exact Go.Mix.wanted_none rfl | exact Go.Mix.wanted_tt rfl rfl rfl | exact Go.Mix.wanted_ff rfl rfl rfl); refine Go.Flo.quiet_load_row 67 _ rfl g1 rfl _ #[.int .i8 (d 0), .int .i8 (d 1), .int .i8 (d 2), .int .i8 (d 3), .int .i8 (d 4), .int .i8 (d 5)] _ (by rintro _ ⟨i, rfl⟩; exact ((HW.out i).block _ l2).trans h2) Try.underlying67 rfl size_ch ?_; go_simp; refine hK _ ?_; clear hK K)
  refine Go.Flo.fw_loud rfl ?_ rfl (by simp) (fun wv hwv hav K hK => ?_) (fun v hv K hK => ?_)
  · (first | exact Go.Mix.wanted_none rfl | exact Go.Mix.wanted_tt rfl rfl rfl | exact Go.Mix.wanted_ff rfl rfl rfl)
  · obtain ⟨iv, rfl⟩ := hwv
    have hbv := HW.out iv
    (first | go_big_op | go_simp)
    go_at_call 34
    refine (Units_any d _ HD.out).mono ?_
    rintro e w' ⟨rfl, hb⟩
    rw [← HE.out.2.1]
    exact hK _ _ (Go.Flo.owes_is _ rfl hb)
  obtain rfl := hv.is
  go_simp
  refine hK _ ?_
  clear hK K hv
  refine Go.Flo.fw_loud rfl ?_ rfl (by simp) (fun wv hwv hav K hK => ?_) (fun v hv K hK => ?_)
  · (first | exact Go.Mix.wanted_none rfl | exact Go.Mix.wanted_tt rfl rfl rfl | exact Go.Mix.wanted_ff rfl rfl rfl)
  · obtain ⟨iv, rfl⟩ := hwv
    have hbv := HW.out iv
    (first | go_big_op | go_simp)
    go_at_call 67
    refine (Less_any s r _ hs1 hr1).mono ?_
    rintro e w' ⟨rfl, rfl⟩
    rw [← HE.out.2.2]
    exact hK _ _ (Go.Flo.owes_is _ rfl (Below.refl _ _))
  obtain rfl := hv.is
  go_simp
  refine hK _ ?_
  clear hK K hv
  refine Go.Flo.fw_loud rfl ?_ rfl (by simp) (fun wv hwv hav K hK => ?_) (fun v hv K hK => ?_)
  · (first | exact Go.Mix.wanted_none rfl | exact Go.Mix.wanted_tt rfl rfl rfl | exact Go.Mix.wanted_ff rfl rfl rfl)
  · obtain ⟨iv, rfl⟩ := hwv
    have hbv := HW.out iv
    (first | go_big_op | go_simp)
    go_at_call 81
    refine (list_any q _ hq1).mono ?_
    rintro e w' ⟨v, rfl, ho, hb⟩
    exact hK _ _ (owes_Z rfl hb ho (Nat.le_trans HB.out.size hbv.size))
  obtain ⟨xa, xc, rfl⟩ := ex_Z hv
  go_simp
  refine hK _ ?_
  clear hK K hv
  (repeat (first | (refine Go.Flo.fw_calm rfl ?_ (fun K hK => ?_); (first | exact Go.Mix.wanted_none rfl | exact Go.Mix.wanted_tt rfl rfl rfl | exact Go.Mix.wanted_ff rfl rfl rfl); go_big_quiet_op; refine hK _ ?_; clear hK K) | (refine Go.Flo.fw_skip ?_ (fun K hK => ?_); (first | exact Go.Mix.wanted_tf rfl rfl rfl | exact Go.Mix.wanted_ft rfl rfl rfl); go_simp; refine hK _ ?_; clear hK K) | (refine Go.Flo.fw_any rfl ?_ (fun K hK => ?_); (first | exact Go.Mix.wanted_none rfl | exact Go.Mix.wanted_tt rfl rfl rfl | exact Go.Mix.wanted_ff rfl rfl rfl); go_simp; (try (go_ints; try go_simp)); refine hK _ ?_; clear hK K)))
  refine Go.Flo.fw_nil ?_
  intro w4 hww4 hfw4 huw4
  refine Go.Flo.tw_nil ?_
  obtain ⟨iend, hiend⟩ := hww4
  have hbw4 := HW.out iend
  rw [← hiend] at hbw4
  clear hiend iend huw4
  have hown : w4.ownsRow w.heap.size 3 1 (.slice xa (upTo q 16).length xc) (upTo q 16).length (zl (upTo q 16)) := ((hfw4 (some 10)).1.2 rfl).1
  have HO := Lib.hid hown
  have HB4 := Lib.hid (HB.out.trans (hbw4.mono HB.out.size))
  clear hown hfw4 HJ HW hne hbw4
  go_wp2_with fail
  go_ret
  exact ⟨_, rfl, HO.out, HB4.out⟩
end Go.Proofs.Ytboojcahflkkmaa
