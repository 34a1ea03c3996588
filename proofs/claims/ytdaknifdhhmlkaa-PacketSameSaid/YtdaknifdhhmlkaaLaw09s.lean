/- PacketSame, walked. -/
import Derived.Test.YtdaknifdhhmlkaaPk5
namespace Go.Proofs.Ytdaknifdhhmlkaa
open Go.RowKit Go.Own
set_option linter.unusedVariables false
set_option linter.unusedSimpArgs false

/-- A packet whose data are the call's own. -/
def SpPk (n0 : Nat) (k : Bool) (a c m : Nat) (d : List Nat) : Go.Flo.Spec :=
  ⟨fun v w => ∃ y q, v = .agg #[.bool k, .int .u16 (a : Nat), .int .u16 (c : Nat), .slice y m q] ∧ w.ownsRow n0 5 1 (.slice y m q) m (bl d), fun v w w' hb ⟨y, q, h1, h2⟩ => ⟨y, q, h1, own_keep h2 hb⟩⟩
theorem owes_Pk {o : Oper} {n0 m a c q base : Nat} {k : Bool} {d : List Nat} {y : Option Addr} {w w' : World} (hm : Go.Flo.makes o = false) (hb : Below w.heap.size w w') (h : w'.ownsRow base 5 1 (.slice y m q) m (bl d)) (h0 : n0 ≤ base) : Go.Flo.owes o (SpPk n0 k a c m d) w (.agg #[.bool k, .int .u16 (a : Nat), .int .u16 (c : Nat), .slice y m q]) w' :=
  ⟨⟨y, q, rfl, World.ownsRow.mono h h0⟩, hb, fun g hg => by simp [Go.Flo.ownOf, hm] at hg⟩
theorem ex_Pk {C : World → Prop} {o : Oper} {n0 a c m : Nat} {k : Bool} {d : List Nat} {v : Value} {F : Go.Flo.Facts} {G : Go.Flo.Used} (h : Go.Flo.Ex C o (SpPk n0 k a c m d) F G v) : ∃ y q, v = .agg #[.bool k, .int .u16 (a : Nat), .int .u16 (c : Nat), .slice y m q] := by
  obtain ⟨w, _, _, ⟨y, q, h1, _⟩, _⟩ := h
  exact ⟨y, q, h1⟩
theorem says_Pk {n0 a c m q : Nat} {k : Bool} {d : List Nat} {y : Option Addr} {w : World} (h : (SpPk n0 k a c m d).says (.agg #[.bool k, .int .u16 (a : Nat), .int .u16 (c : Nat), .slice y m q]) w) : w.ownsRow n0 5 1 (.slice y m q) m (bl d) := by
  obtain ⟨y', q', h1, h2⟩ := h
  simp at h1
  obtain ⟨rfl, rfl⟩ := h1
  exact h2
set_option maxRecDepth 100000 in
set_option maxHeartbeats 4000000 in
theorem walk_PacketSame (k : Bool) (a c : Int) (x : Option Addr) (len cap : Nat) (z : List Int) (k' : Bool) (a' c' : Int) (x' : Option Addr) (len' cap' : Nat) (z' : List Int) (n : Int) (w : World)
    (wa : (Lit.int .u16 a).wf = true) (wc : (Lit.int .u16 c).wf = true) (w0 : IsRow .u8 w x len cap z) (wa' : (Lit.int .u16 a').wf = true) (wc' : (Lit.int .u16 c').wf = true) (w0' : IsRow .u8 w x' len' cap' z') (wn : (Lit.int .u16 n).wf = true) :
    Calls Try.prog 7 #[.agg #[.bool k, .int .u16 a, .int .u16 c, .slice x len cap], .agg #[.bool k', .int .u16 a', .int .u16 c', .slice x' len' cap'], .int .u16 n] w fun e w' => e = .returned (.bool true) ∧ Below w.heap.size w w' := by
  obtain ⟨l, hl, hb, hr⟩ := isRow_rd w0
  obtain ⟨l', hl', hb', hr'⟩ := isRow_rd w0'
  obtain ⟨a0, a1⟩ := bounds_u16 wa
  obtain ⟨c0, c1⟩ := bounds_u16 wc
  obtain ⟨a0', a1'⟩ := bounds_u16 wa'
  obtain ⟨c0', c1'⟩ := bounds_u16 wc'
  obtain ⟨n0, n1⟩ := bounds_u16 wn
  obtain ⟨a, rfl⟩ := Int.eq_ofNat_of_zero_le a0
  obtain ⟨c, rfl⟩ := Int.eq_ofNat_of_zero_le c0
  obtain ⟨a', rfl⟩ := Int.eq_ofNat_of_zero_le a0'
  obtain ⟨c', rfl⟩ := Int.eq_ofNat_of_zero_le c0'
  obtain ⟨n, rfl⟩ := Int.eq_ofNat_of_zero_le n0
  have HR := Lib.hid hr
  have HL := Lib.hid hl
  have HR' := Lib.hid hr'
  have HL' := Lib.hid hl'
  have h3 := heap_alloc2_old w (.cells #[.bool k, .int .u16 (a : Nat), .int .u16 (c : Nat), .slice x len cap] 56) (.cells #[.bool k', .int .u16 (a' : Nat), .int .u16 (c' : Nat), .slice x' len' cap'] 56)
  have h4 := heap_alloc2_new w (.cells #[.bool k, .int .u16 (a : Nat), .int .u16 (c : Nat), .slice x len cap] 56) (.cells #[.bool k', .int .u16 (a' : Nat), .int .u16 (c' : Nat), .slice x' len' cap'] 56)
  have hB0 : Below w.heap.size w ((w.alloc (.cells #[.bool k, .int .u16 (a : Nat), .int .u16 (c : Nat), .slice x len cap] 56)).alloc (.cells #[.bool k', .int .u16 (a' : Nat), .int .u16 (c' : Nat), .slice x' len' cap'] 56)) := by repeat' (first | (with_reducible exact Below.refl _ _) | (with_reducible assumption) | (with_reducible refine Below.setCell ?_ ?_ _) | (with_reducible refine Below.alloc ?_ ?_ _) | (with_reducible refine Below.drew ?_) | (with_reducible refine Below.drawsN ?_ _) | go_size)
  clear wa wc wa' wc' wn w0 w0' hr hl hr' hl'
  go_enter Try.func7, Try.ntmps7
  go_wp2_with fail
  obtain ⟨W0, hW0⟩ : ∃ W0, W0 = (w.alloc (.cells #[.bool k, .int .u16 (a : Nat), .int .u16 (c : Nat), .slice x len cap] 56)).alloc (.cells #[.bool k', .int .u16 (a' : Nat), .int .u16 (c' : Nat), .slice x' len' cap'] 56) := ⟨_, rfl⟩
  obtain ⟨g, hg⟩ : ∃ g, g = w.heap.size := ⟨_, rfl⟩
  rw [← hW0] at hB0 h3 h4 ⊢
  rw [← hg] at h3 h4 ⊢
  have hgB : w.heap.size ≤ g := by omega
  clear hW0 hg
  go_at_call 32
  refine (awake09 _).mono ?_
  rintro e w1 ⟨rfl, hb1⟩
  have hz4 := (Array.getElem?_eq_some_iff.1 h4).1
  have h3 := (hb1.block g (Array.getElem?_eq_some_iff.1 h3).1).trans h3
  have h4 := (hb1.block (g + 1) hz4).trans h4
  have hz1 := (Array.getElem?_eq_some_iff.1 h4).1
  have hB1 := hB0.trans (hb1.mono hB0.size)
  have H3 := Lib.hid h3
  have H4 := Lib.hid h4
  have HB1 := Lib.hid hB1
  have hs1 : w.heap.size ≤ w1.heap.size := hB1.size
  clear hb1 hB0 hz4 h3 h4 hB1
  go_wp2_with fail
  obtain ⟨m, hm⟩ : ∃ m, m = min 260 len := ⟨_, rfl⟩
  obtain ⟨m', hm'⟩ : ∃ m', m' = min 260 len' := ⟨_, rfl⟩
  obtain ⟨d, hd⟩ : ∃ d, d = l.take 260 := ⟨_, rfl⟩
  obtain ⟨d', hd'⟩ : ∃ d', d' = l'.take 260 := ⟨_, rfl⟩
  have hdb : bytes d := by rw [hd]; exact hb.take 260
  have hdb' : bytes d' := by rw [hd']; exact hb'.take 260
  have hdl : d.length = m := by rw [hd, hm]; exact bytes_take HL.out
  have hdl' : d'.length = m' := by rw [hd', hm']; exact bytes_take HL'.out
  have HM := Lib.hid hm
  have HM' := Lib.hid hm'
  have HD := Lib.hid hd
  have HD' := Lib.hid hd'
  have HDL := Lib.hid hdl
  have HDL' := Lib.hid hdl'
  clear hm hm' hd hd' hdl hdl'
  obtain ⟨I, W, hne, hWI, hIW⟩ := Go.Mix.family (fun v => Below w1.heap.size w1 v) (Below.refl _ _)
  have HJ := Lib.hid hIW
  have HW := Lib.hid hWI
  clear hWI hIW
  refine Go.Flo.wp_region (fun w' => ∃ i, w' = W i) 4 [SpPk w1.heap.size k a c m d, SpPk w1.heap.size k' a' c' m' d'] (by kernel_rfl) (by kernel_rfl) (by decide) (by rintro _ w' ⟨i, rfl⟩ hb; exact HJ.out _ ((HW.out i).trans (hb.mono (HW.out i).size))) (HJ.out _ (Below.refl _ _).drew) ?_
  simp only [Go.Flo.pair, Go.Mix.calm, List.take, List.drop, if_true, Bool.false_eq_true, if_false, Nat.reduceAdd, Nat.reduceSub]
  (refine Go.Flo.fw_calm rfl ?_ (fun K hK => ?_); (first | exact Go.Mix.wanted_none rfl | exact Go.Mix.wanted_tt rfl rfl rfl | exact Go.Mix.wanted_ff rfl rfl rfl); refine Go.Flo.quiet_load_row 56 _ rfl g rfl _ #[.bool k, .int .u16 (a : Nat), .int .u16 (c : Nat), .slice x len cap] _ (by rintro _ ⟨i, rfl⟩; exact ((HW.out i).block g (by omega)).trans H3.out) Try.underlying56 rfl size_pk ?_; go_simp; refine hK _ ?_; clear hK K)
  refine Go.Flo.fw_loud rfl ?_ rfl (by simp) (fun wv hwv hav K hK => ?_) (fun v hv K hK => ?_)
  · (first | exact Go.Mix.wanted_none rfl | exact Go.Mix.wanted_tt rfl rfl rfl | exact Go.Mix.wanted_ff rfl rfl rfl)
  · obtain ⟨iv, rfl⟩ := hwv
    have hbv := HW.out iv
    (first | go_big_op | go_simp)
    go_at_call 33
    refine (few09 k a c len cap w.heap.size x l _ HL.out (Nat.le_trans hs1 hbv.size) ((HR.out.below (HB1.out.trans (hbv.mono hs1))))).mono ?_
    rintro e w' ⟨y, q, rfl, hown, hbb⟩
    rw [← HM.out, ← HD.out] at hown
    rw [← HM.out]
    exact hK _ _ (owes_Pk rfl hbb hown hbv.size)
  obtain ⟨y, q, rfl⟩ := ex_Pk hv
  go_simp
  refine hK _ ?_
  clear hK K hv
  (refine Go.Flo.fw_calm rfl ?_ (fun K hK => ?_); (first | exact Go.Mix.wanted_none rfl | exact Go.Mix.wanted_tt rfl rfl rfl | exact Go.Mix.wanted_ff rfl rfl rfl); refine Go.Flo.quiet_load_row 56 _ rfl (g + 1) rfl _ #[.bool k', .int .u16 (a' : Nat), .int .u16 (c' : Nat), .slice x' len' cap'] _ (by rintro _ ⟨i, rfl⟩; exact ((HW.out i).block (g + 1) hz1).trans H4.out) Try.underlying56 rfl size_pk ?_; go_simp; refine hK _ ?_; clear hK K)
  refine Go.Flo.fw_loud rfl ?_ rfl (by simp) (fun wv hwv hav K hK => ?_) (fun v hv K hK => ?_)
  · (first | exact Go.Mix.wanted_none rfl | exact Go.Mix.wanted_tt rfl rfl rfl | exact Go.Mix.wanted_ff rfl rfl rfl)
  · obtain ⟨iv, rfl⟩ := hwv
    have hbv := HW.out iv
    (first | go_big_op | go_simp)
    go_at_call 33
    refine (few09 k' a' c' len' cap' w.heap.size x' l' _ HL'.out (Nat.le_trans hs1 hbv.size) ((HR'.out.below (HB1.out.trans (hbv.mono hs1))))).mono ?_
    rintro e w' ⟨y, q, rfl, hown, hbb⟩
    rw [← HM'.out, ← HD'.out] at hown
    rw [← HM'.out]
    exact hK _ _ (owes_Pk rfl hbb hown hbv.size)
  obtain ⟨y', q', rfl⟩ := ex_Pk hv
  go_simp
  refine hK _ ?_
  clear hK K hv
  refine Go.Flo.fw_nil ?_
  intro w2 hww2 hfw2 huw2
  obtain ⟨iend, hiend⟩ := hww2
  have hbw2 := HW.out iend
  rw [← hiend] at hbw2
  clear hiend iend huw2
  have ho := says_Pk ((hfw2 (some 11)).1.1.2 rfl).1
  have ho' := says_Pk ((hfw2 (some 13)).2 rfl).1
  have h3 := (hbw2.block g (by omega)).trans H3.out
  have h4 := (hbw2.block (g + 1) hz1).trans H4.out
  clear hfw2 HJ HW hne H3 H4
  clear W I
  refine Go.Flo.tw_step ?_ (fun K hK => ?_)
  · (first | exact Go.Mix.wanted_none rfl | exact Go.Mix.wanted_tt rfl rfl rfl | exact Go.Mix.wanted_ff rfl rfl rfl)
  refine wp_store_row 56 (.tmp 3) (.tmp 11) rfl g #[.bool k, .int .u16 (a : Nat), .int .u16 (c : Nat), .slice y m q] rfl rfl 56 _ h3 size_pk rfl (by simp [Value.oneCell']) (hK _ _ ?_)
  clear hK K
  refine Go.Flo.tw_step ?_ (fun K hK => ?_)
  · (first | exact Go.Mix.wanted_none rfl | exact Go.Mix.wanted_tt rfl rfl rfl | exact Go.Mix.wanted_ff rfl rfl rfl)
  have h4' := (setRow_other w2 g (g + 1) #[.bool k, .int .u16 (a : Nat), .int .u16 (c : Nat), .slice y m q] (by omega)).trans h4
  refine wp_store_row 56 (.tmp 4) (.tmp 13) rfl (g + 1) #[.bool k', .int .u16 (a' : Nat), .int .u16 (c' : Nat), .slice y' m' q'] rfl rfl 56 _ h4' size_pk rfl (by simp [Value.oneCell']) (hK _ _ ?_)
  clear hK K
  refine Go.Flo.tw_nil ?_
  have e4 := setRow_heap _ _ _ #[.bool k', .int .u16 (a' : Nat), .int .u16 (c' : Nat), .slice y' m' q'] _ _ h4'
  have e3 := (setRow_other (w2.setRow g #[.bool k, .int .u16 (a : Nat), .int .u16 (c : Nat), .slice y m q]) (g + 1) g #[.bool k', .int .u16 (a' : Nat), .int .u16 (c' : Nat), .slice y' m' q'] (by omega)).trans (setRow_heap _ _ _ #[.bool k, .int .u16 (a : Nat), .int .u16 (c : Nat), .slice y m q] _ _ h3)
  have ho := ho.kept (grown_setRow w2 g #[.bool k, .int .u16 (a : Nat), .int .u16 (c : Nat), .slice y m q]) (.inr (fun e => by have := (ho.lt g e).1; omega))
  have ho := ho.kept (grown_setRow _ (g + 1) #[.bool k', .int .u16 (a' : Nat), .int .u16 (c' : Nat), .slice y' m' q']) (.inr (fun e => by have := (ho.lt (g + 1) e).1; omega))
  have ho' := ho'.kept (grown_setRow w2 g #[.bool k, .int .u16 (a : Nat), .int .u16 (c : Nat), .slice y m q]) (.inr (fun e => by have := (ho'.lt g e).1; omega))
  have ho' := ho'.kept (grown_setRow _ (g + 1) #[.bool k', .int .u16 (a' : Nat), .int .u16 (c' : Nat), .slice y' m' q']) (.inr (fun e => by have := (ho'.lt (g + 1) e).1; omega))
  have hB3 := below_setRow (below_setRow (HB1.out.trans (hbw2.mono hs1)) hgB #[.bool k, .int .u16 (a : Nat), .int .u16 (c : Nat), .slice y m q]) (show w.heap.size ≤ g + 1 by omega) #[.bool k', .int .u16 (a' : Nat), .int .u16 (c' : Nat), .slice y' m' q']
  obtain ⟨w3, hw3⟩ : ∃ w3, w3 = (w2.setRow g #[.bool k, .int .u16 (a : Nat), .int .u16 (c : Nat), .slice y m q]).setRow (g + 1) #[.bool k', .int .u16 (a' : Nat), .int .u16 (c' : Nat), .slice y' m' q'] := ⟨_, rfl⟩
  rw [← hw3] at e3 e4 ho ho' hB3 ⊢
  have hz3 := (Array.getElem?_eq_some_iff.1 e4).1
  have E3 := Lib.hid e3
  have E4 := Lib.hid e4
  have HO := Lib.hid ho
  have HO' := Lib.hid ho'
  have HB3 := Lib.hid hB3
  have hs3 : w.heap.size ≤ w3.heap.size := hB3.size
  clear hw3 e3 e4 ho ho' hB3 h3 h4 h4' hbw2 HB1 hz1
  have hmod : ((((n + 1) % 16384) + 1) % 16384 + 1) % 16384 = (n + 3) % 16384 := by omega
  have hN1 : (n + 1) % 16384 < 65536 := by omega
  obtain ⟨N1, hN1'⟩ : ∃ N1, N1 = (n + 1) % 16384 := ⟨_, rfl⟩
  have hN2 : (N1 + 1) % 16384 < 65536 := by omega
  obtain ⟨N2, hN2'⟩ : ∃ N2, N2 = (N1 + 1) % 16384 := ⟨_, rfl⟩
  obtain ⟨N3, hN3'⟩ : ∃ N3, N3 = (N2 + 1) % 16384 := ⟨_, rfl⟩
  have hNN : Int.tmod (IntKind.u16.wrap ((n : Int) + 3)) 16384 = (N3 : Int) := by
    rw [IntKind.wrap_u16, Int.tmod_eq_emod_of_nonneg (by omega)]; omega
  have HN1 := Lib.hid hN1'
  have HN2 := Lib.hid hN2'
  have HN3 := Lib.hid hN3'
  rw [← hN1'] at hN1
  rw [← hN2'] at hN2
  clear hN1' hN2' hN3' hmod
  go_wp2
  refine wp_loop_rounds 4 ?_
  rw [rounds_succ]; go_wp2_with (go_at_call 47; refine (pNext_any n _ (by omega)).mono ?_; rintro e w' ⟨rfl, rfl⟩; rw [← HN1.out])
  rw [rounds_succ]; go_wp2_with (go_at_call 47; refine (pNext_any N1 _ (by omega)).mono ?_; rintro e w' ⟨rfl, rfl⟩; rw [← HN2.out])
  rw [rounds_succ]; go_wp2_with (go_at_call 47; refine (pNext_any N2 _ (by omega)).mono ?_; rintro e w' ⟨rfl, rfl⟩; rw [← HN3.out])
  rw [rounds_succ]; go_wp2_with fail
  obtain ⟨T, hT⟩ : ∃ T, T = decide (k = k' ∧ a = a' ∧ c = c' ∧ d = d') := ⟨_, rfl⟩
  have HT := Lib.hid hT
  have hTT : (T == T) = true := by cases T <;> rfl
  clear hT hN1 hN2 HN1 HN2 HN3
  obtain ⟨I, W, hne, hWI, hIW⟩ := Go.Mix.family (fun v => Below w3.heap.size w3 v) (Below.refl _ _)
  have HJ := Lib.hid hIW
  have HW := Lib.hid hWI
  clear hWI hIW
  refine Go.Flo.wp_region (fun w' => ∃ i, w' = W i) 21 [Go.Flo.Spec.is (.bool T), Go.Flo.Spec.is (.agg #[.bool k', .int .u16 (a' : Nat), .int .u16 (c' : Nat), .slice y' m' q']), Go.Flo.Spec.is (.bool T), Go.Flo.Spec.is (.bool true)] (by kernel_rfl) (by kernel_rfl) (by decide) (by rintro _ w' ⟨i, rfl⟩ hb; exact HJ.out _ ((HW.out i).trans (hb.mono (HW.out i).size))) (HJ.out _ (Below.refl _ _).drew) ?_
  simp only [Go.Flo.pair, Go.Mix.calm, List.take, List.drop, if_true, Bool.false_eq_true, if_false, Nat.reduceAdd, Nat.reduceSub]
  (refine Go.Flo.fw_calm rfl ?_ (fun K hK => ?_); (first | exact Go.Mix.wanted_none rfl | exact Go.Mix.wanted_tt rfl rfl rfl | exact Go.Mix.wanted_ff rfl rfl rfl); refine Go.Flo.quiet_load_row 56 _ rfl g rfl _ #[.bool k, .int .u16 (a : Nat), .int .u16 (c : Nat), .slice y m q] _ (by rintro _ ⟨i, rfl⟩; exact ((HW.out i).block g (by omega)).trans E3.out) Try.underlying56 rfl size_pk ?_; go_simp; refine hK _ ?_; clear hK K)
  (refine Go.Flo.fw_calm rfl ?_ (fun K hK => ?_); (first | exact Go.Mix.wanted_none rfl | exact Go.Mix.wanted_tt rfl rfl rfl | exact Go.Mix.wanted_ff rfl rfl rfl); refine Go.Flo.quiet_load_row 56 _ rfl (g + 1) rfl _ #[.bool k', .int .u16 (a' : Nat), .int .u16 (c' : Nat), .slice y' m' q'] _ (by rintro _ ⟨i, rfl⟩; exact ((HW.out i).block (g + 1) hz3).trans E4.out) Try.underlying56 rfl size_pk ?_; go_simp; refine hK _ ?_; clear hK K)
  (repeat (first | (refine Go.Flo.fw_calm rfl ?_ (fun K hK => ?_); (first | exact Go.Mix.wanted_none rfl | exact Go.Mix.wanted_tt rfl rfl rfl | exact Go.Mix.wanted_ff rfl rfl rfl); go_big_quiet_op; refine hK _ ?_; clear hK K) | (refine Go.Flo.fw_skip ?_ (fun K hK => ?_); (first | exact Go.Mix.wanted_tf rfl rfl rfl | exact Go.Mix.wanted_ft rfl rfl rfl); go_simp; refine hK _ ?_; clear hK K) | (refine Go.Flo.fw_any rfl ?_ (fun K hK => ?_); (first | exact Go.Mix.wanted_none rfl | exact Go.Mix.wanted_tt rfl rfl rfl | exact Go.Mix.wanted_ff rfl rfl rfl); go_simp; (try (go_ints; try go_simp)); refine hK _ ?_; clear hK K)))
  refine Go.Flo.fw_loud rfl ?_ rfl (by simp) (fun wv hwv hav K hK => ?_) (fun v hv K hK => ?_)
  · (first | exact Go.Mix.wanted_none rfl | exact Go.Mix.wanted_tt rfl rfl rfl | exact Go.Mix.wanted_ff rfl rfl rfl)
  · obtain ⟨iv, rfl⟩ := hwv
    have hbv := HW.out iv
    (first | go_big_op | go_simp)
    go_at_call 48
    refine (pSame_any k k' a c a' c' m q m' q' w1.heap.size w1.heap.size y y' d d' _ HDL.out HDL'.out (own_keep HO.out hbv) (own_keep HO'.out hbv) hdb hdb' T HT.out).mono ?_
    rintro e w' ⟨rfl, hbb⟩
    exact hK _ _ (Go.Flo.owes_is _ rfl hbb)
  obtain rfl := hv.is
  go_simp
  refine hK _ ?_
  clear hK K hv
  (refine Go.Flo.fw_calm rfl ?_ (fun K hK => ?_); (first | exact Go.Mix.wanted_none rfl | exact Go.Mix.wanted_tt rfl rfl rfl | exact Go.Mix.wanted_ff rfl rfl rfl); refine Go.Flo.quiet_load_row 56 _ rfl g rfl _ #[.bool k, .int .u16 (a : Nat), .int .u16 (c : Nat), .slice y m q] _ (by rintro _ ⟨i, rfl⟩; exact ((HW.out i).block g (by omega)).trans E3.out) Try.underlying56 rfl size_pk ?_; go_simp; refine hK _ ?_; clear hK K)
  (refine Go.Flo.fw_calm rfl ?_ (fun K hK => ?_); (first | exact Go.Mix.wanted_none rfl | exact Go.Mix.wanted_tt rfl rfl rfl | exact Go.Mix.wanted_ff rfl rfl rfl); refine Go.Flo.quiet_load_row 56 _ rfl (g + 1) rfl _ #[.bool k', .int .u16 (a' : Nat), .int .u16 (c' : Nat), .slice y' m' q'] _ (by rintro _ ⟨i, rfl⟩; exact ((HW.out i).block (g + 1) hz3).trans E4.out) Try.underlying56 rfl size_pk ?_; go_simp; refine hK _ ?_; clear hK K)
  (repeat (first | (refine Go.Flo.fw_calm rfl ?_ (fun K hK => ?_); (first | exact Go.Mix.wanted_none rfl | exact Go.Mix.wanted_tt rfl rfl rfl | exact Go.Mix.wanted_ff rfl rfl rfl); go_big_quiet_op; refine hK _ ?_; clear hK K) | (refine Go.Flo.fw_skip ?_ (fun K hK => ?_); (first | exact Go.Mix.wanted_tf rfl rfl rfl | exact Go.Mix.wanted_ft rfl rfl rfl); go_simp; refine hK _ ?_; clear hK K) | (refine Go.Flo.fw_any rfl ?_ (fun K hK => ?_); (first | exact Go.Mix.wanted_none rfl | exact Go.Mix.wanted_tt rfl rfl rfl | exact Go.Mix.wanted_ff rfl rfl rfl); go_simp; (try (go_ints; try go_simp)); refine hK _ ?_; clear hK K)))
  refine Go.Flo.fw_loud rfl ?_ rfl (by simp) (fun wv hwv hav K hK => ?_) (fun v hv K hK => ?_)
  · (first | exact Go.Mix.wanted_none rfl | exact Go.Mix.wanted_tt rfl rfl rfl | exact Go.Mix.wanted_ff rfl rfl rfl)
  · obtain ⟨iv, rfl⟩ := hwv
    have hbv := HW.out iv
    (first | go_big_op | go_simp)
    go_at_call 37
    refine (own09 k' a' c' m' q' y' _).mono ?_
    rintro e w' ⟨rfl, hbb⟩
    exact hK _ _ (Go.Flo.owes_is _ rfl hbb)
  obtain rfl := hv.is
  go_simp
  refine hK _ ?_
  clear hK K hv
  (repeat (first | (refine Go.Flo.fw_calm rfl ?_ (fun K hK => ?_); (first | exact Go.Mix.wanted_none rfl | exact Go.Mix.wanted_tt rfl rfl rfl | exact Go.Mix.wanted_ff rfl rfl rfl); go_big_quiet_op; refine hK _ ?_; clear hK K) | (refine Go.Flo.fw_skip ?_ (fun K hK => ?_); (first | exact Go.Mix.wanted_tf rfl rfl rfl | exact Go.Mix.wanted_ft rfl rfl rfl); go_simp; refine hK _ ?_; clear hK K) | (refine Go.Flo.fw_any rfl ?_ (fun K hK => ?_); (first | exact Go.Mix.wanted_none rfl | exact Go.Mix.wanted_tt rfl rfl rfl | exact Go.Mix.wanted_ff rfl rfl rfl); go_simp; (try (go_ints; try go_simp)); refine hK _ ?_; clear hK K)))
  refine Go.Flo.fw_loud rfl ?_ rfl (by simp) (fun wv hwv hav K hK => ?_) (fun v hv K hK => ?_)
  · (first | exact Go.Mix.wanted_none rfl | exact Go.Mix.wanted_tt rfl rfl rfl | exact Go.Mix.wanted_ff rfl rfl rfl)
  · obtain ⟨iv, rfl⟩ := hwv
    have hbv := HW.out iv
    (first | go_big_op | go_simp)
    go_at_call 44
    refine (same09 k k' a c a' c' m q m' q' _ _ y y' d d' _ HDL.out HDL'.out (Nat.le_refl _) (Nat.le_refl _) (rd_of_own (own_keep HO.out hbv) (fun i hi => bl_at d (by rw [HDL.out]; exact hi))) (rd_of_own (own_keep HO'.out hbv) (fun i hi => bl_at d' (by rw [HDL'.out]; exact hi))) hdb hdb' T HT.out).mono ?_
    rintro e w' ⟨rfl, hbb⟩
    exact hK _ _ (Go.Flo.owes_is _ rfl hbb)
  obtain rfl := hv.is
  go_simp
  refine hK _ ?_
  clear hK K hv
  (repeat (first | (refine Go.Flo.fw_calm rfl ?_ (fun K hK => ?_); (first | exact Go.Mix.wanted_none rfl | exact Go.Mix.wanted_tt rfl rfl rfl | exact Go.Mix.wanted_ff rfl rfl rfl); go_big_quiet_op; refine hK _ ?_; clear hK K) | (refine Go.Flo.fw_skip ?_ (fun K hK => ?_); (first | exact Go.Mix.wanted_tf rfl rfl rfl | exact Go.Mix.wanted_ft rfl rfl rfl); go_simp; refine hK _ ?_; clear hK K) | (refine Go.Flo.fw_any rfl ?_ (fun K hK => ?_); (first | exact Go.Mix.wanted_none rfl | exact Go.Mix.wanted_tt rfl rfl rfl | exact Go.Mix.wanted_ff rfl rfl rfl); go_simp; (try (go_ints; try go_simp)); refine hK _ ?_; clear hK K)))
  (refine Go.Flo.fw_calm rfl ?_ (fun K hK => ?_); (first | exact Go.Mix.wanted_none rfl | exact Go.Mix.wanted_tt rfl rfl rfl | exact Go.Mix.wanted_ff rfl rfl rfl); refine Go.Flo.quiet_load_row 56 _ rfl g rfl _ #[.bool k, .int .u16 (a : Nat), .int .u16 (c : Nat), .slice y m q] _ (by rintro _ ⟨i, rfl⟩; exact ((HW.out i).block g (by omega)).trans E3.out) Try.underlying56 rfl size_pk ?_; go_simp; refine hK _ ?_; clear hK K)
  (refine Go.Flo.fw_calm rfl ?_ (fun K hK => ?_); (first | exact Go.Mix.wanted_none rfl | exact Go.Mix.wanted_tt rfl rfl rfl | exact Go.Mix.wanted_ff rfl rfl rfl); refine Go.Flo.quiet_load_row 56 _ rfl g rfl _ #[.bool k, .int .u16 (a : Nat), .int .u16 (c : Nat), .slice y m q] _ (by rintro _ ⟨i, rfl⟩; exact ((HW.out i).block g (by omega)).trans E3.out) Try.underlying56 rfl size_pk ?_; go_simp; refine hK _ ?_; clear hK K)
  (repeat (first | (refine Go.Flo.fw_calm rfl ?_ (fun K hK => ?_); (first | exact Go.Mix.wanted_none rfl | exact Go.Mix.wanted_tt rfl rfl rfl | exact Go.Mix.wanted_ff rfl rfl rfl); go_big_quiet_op; refine hK _ ?_; clear hK K) | (refine Go.Flo.fw_skip ?_ (fun K hK => ?_); (first | exact Go.Mix.wanted_tf rfl rfl rfl | exact Go.Mix.wanted_ft rfl rfl rfl); go_simp; refine hK _ ?_; clear hK K) | (refine Go.Flo.fw_any rfl ?_ (fun K hK => ?_); (first | exact Go.Mix.wanted_none rfl | exact Go.Mix.wanted_tt rfl rfl rfl | exact Go.Mix.wanted_ff rfl rfl rfl); go_simp; (try (go_ints; try go_simp)); refine hK _ ?_; clear hK K)))
  refine Go.Flo.fw_loud rfl ?_ rfl (by simp) (fun wv hwv hav K hK => ?_) (fun v hv K hK => ?_)
  · (first | exact Go.Mix.wanted_none rfl | exact Go.Mix.wanted_tt rfl rfl rfl | exact Go.Mix.wanted_ff rfl rfl rfl)
  · obtain ⟨iv, rfl⟩ := hwv
    have hbv := HW.out iv
    (first | go_big_op | go_simp)
    go_at_call 48
    refine (pSame_any k k a c a c m q m q w1.heap.size w1.heap.size y y d d _ HDL.out HDL.out (own_keep HO.out hbv) (own_keep HO.out hbv) hdb hdb true (by simp)).mono ?_
    rintro e w' ⟨rfl, hbb⟩
    exact hK _ _ (Go.Flo.owes_is _ rfl hbb)
  obtain rfl := hv.is
  go_simp
  refine hK _ ?_
  clear hK K hv
  (repeat (first | (refine Go.Flo.fw_calm rfl ?_ (fun K hK => ?_); (first | exact Go.Mix.wanted_none rfl | exact Go.Mix.wanted_tt rfl rfl rfl | exact Go.Mix.wanted_ff rfl rfl rfl); go_big_quiet_op; refine hK _ ?_; clear hK K) | (refine Go.Flo.fw_skip ?_ (fun K hK => ?_); (first | exact Go.Mix.wanted_tf rfl rfl rfl | exact Go.Mix.wanted_ft rfl rfl rfl); go_simp; refine hK _ ?_; clear hK K) | (refine Go.Flo.fw_any rfl ?_ (fun K hK => ?_); (first | exact Go.Mix.wanted_none rfl | exact Go.Mix.wanted_tt rfl rfl rfl | exact Go.Mix.wanted_ff rfl rfl rfl); go_simp; (try (go_ints; try go_simp)); refine hK _ ?_; clear hK K)))
  refine Go.Flo.fw_nil ?_
  intro w4 hww4 hfw4 huw4
  refine Go.Flo.tw_nil ?_
  obtain ⟨iend, hiend⟩ := hww4
  have hbw4 := HW.out iend
  rw [← hiend] at hbw4
  clear hiend iend huw4
  clear hfw4 HJ HW hne
  clear W I
  go_wp2
  go_ret
  exact ⟨rfl, HB3.out.trans (hbw4.mono hs3)⟩
end Go.Proofs.Ytdaknifdhhmlkaa
