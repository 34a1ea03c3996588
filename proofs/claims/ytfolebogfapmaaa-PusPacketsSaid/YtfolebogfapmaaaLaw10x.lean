/- PusPackets, walked. -/
import Derived.Test.YtfolebogfapmaaaPs10
namespace Go.Proofs.Ytfolebogfapmaaa
open Go.RowKit Go.Own
set_option linter.unusedVariables false
set_option linter.unusedSimpArgs false

theorem cmpD_cm {a s u c : Nat} {d : List Nat} (ha : a < 16) (hd : d.length ≤ 195) : cmpD (cmB a s u c d) = d := by
  unfold cmpD; rw [if_pos (cmB_err ha hd), cmB_drop]
theorem cmp_cm {a s u c : Nat} {d : List Nat} (ha : a < 16) (hc : c < 65536) (hd : d.length ≤ 195) : cmp0 (cmB a s u c d) = a ∧ cmp1 (cmB a s u c d) = s ∧ cmp2 (cmB a s u c d) = u ∧ cmp3 (cmB a s u c d) = c := by
  unfold cmp0 cmp1 cmp2 cmp3
  rw [if_pos (cmB_err ha hd), if_pos (cmB_err ha hd), if_pos (cmB_err ha hd), if_pos (cmB_err ha hd), cmB_at2 hc]
  refine ⟨?_, ?_, ?_, rfl⟩
  · rw [cmB_cons]; simp; omega
  · rw [cmB_cons]; rfl
  · rw [cmB_cons]; rfl
theorem rppD_rp {s u c t : Nat} {d : List Nat} (hd : d.length ≤ 189) : rppD (rpB s u c t d) = d := by
  unfold rppD; rw [if_pos (rpB_err hd), rpB_drop]
theorem rpp_rp {s u c t : Nat} {d : List Nat} (hc : c < 65536) (ht : t < 4294967296) (hd : d.length ≤ 189) : rpp0 (rpB s u c t d) = s ∧ rpp1 (rpB s u c t d) = u ∧ rpp2 (rpB s u c t d) = c ∧ rpp3 (rpB s u c t d) = t := by
  unfold rpp0 rpp1 rpp2 rpp3
  rw [if_pos (rpB_err hd), if_pos (rpB_err hd), if_pos (rpB_err hd), if_pos (rpB_err hd), rpB_at2 hc, rpB_at4 ht]
  refine ⟨?_, ?_, rfl, rfl⟩
  · rw [rpB_cons]; rfl
  · rw [rpB_cons]; rfl
/-- What a packet of some data is read as. -/
theorem parsed {w w' : World} {k ap ct : Nat} {F : List Nat} {fm : Nat} {e : Ending} (kb : Bool) (hkb : decide (k = 1) = kb) (hk : k ≤ 1) (ha : ap < 2048) (hc : ct < 16384) (hF : F.length = fm) (h0 : 0 < fm) (h2 : fm ≤ 200) (h : PkParse w (mkPkt k ap ct F) e w') :
    Below w.heap.size w w' ∧ ∃ x q, e = .returned (.tuple #[.agg #[.bool kb, .int .u16 (ap : Nat), .int .u16 (ct : Nat), .slice x fm q], .int .i64 0]) ∧ Rd w'.heap.size w' x fm q (bv F) := by
  subst hF hkb
  obtain ⟨hb, ⟨_, x, c, rfl, hr⟩ | ⟨hne, _⟩⟩ := h
  · rw [mkPkt_dat] at hr
    exact ⟨hb, x, c, by rw [mkPkt_dat, mkPkt_k k ap ct F hk ha, mkPkt_a k ap ct F hk ha, mkPkt_c k ap ct F hc], hr⟩
  · exact absurd (by rw [mkPkt_err k ap ct F hk ha hc h2, if_neg (by omega)]) hne
theorem sd_zero {ap ct a m : Nat} (ha : a < 16) (hap : ap < 2048) (hct : ct < 16384) (hm : m ≤ 150) : sdErr ap ct a m = 0 := by
  have h : cmBad a m = 0 := by unfold cmBad; rw [if_neg (by omega), if_neg (by omega)]
  unfold sdErr
  rw [h, if_neg (by simp)]
  unfold pkRight
  rw [if_neg (by omega), if_neg (by omega)]
theorem tl_zero {ap ct m : Nat} (hap : ap < 2048) (hct : ct < 16384) (hm : m ≤ 150) : tlErr ap ct m = 0 := by
  have h : rpBad m = 0 := by unfold rpBad; rw [if_neg (by omega)]
  unfold tlErr
  rw [h, if_neg (by simp)]
  unfold pkRight
  rw [if_neg (by omega), if_neg (by omega)]
theorem own_set {w : World} {B m b i : Nat} {v x : Value} {xs : List Value} (h : w.ownsRow B 5 1 v m xs) (hg : b < B) : (w.setCell ⟨b, i, none⟩ x).ownsRow B 5 1 v m xs :=
  h.kept (grown_set w ⟨b, i, none⟩ x) (.inr (fun e => by have := (h.lt b e).1; omega))
set_option maxRecDepth 100000 in
set_option maxHeartbeats 8000000 in
theorem walk_PusPackets (a s u c : Int) (x : Option Addr) (len cap : Nat) (z : List Int) (s' u' c' t' : Int) (x' : Option Addr) (len' cap' : Nat) (z' : List Int) (ap ct : Int) (w : World)
    (wa : (Lit.int .u8 a).wf = true) (ws : (Lit.int .u8 s).wf = true) (wu : (Lit.int .u8 u).wf = true) (wc : (Lit.int .u16 c).wf = true) (wx : IsRow .u8 w x len cap z)
    (ws' : (Lit.int .u8 s').wf = true) (wu' : (Lit.int .u8 u').wf = true) (wc' : (Lit.int .u16 c').wf = true) (wt' : (Lit.int .u32 t').wf = true) (wx' : IsRow .u8 w x' len' cap' z') (wap : (Lit.int .u16 ap).wf = true) (wct : (Lit.int .u16 ct).wf = true) :
    Calls Try.prog 7 #[.agg #[.int .u8 a, .int .u8 s, .int .u8 u, .int .u16 c, .slice x len cap], .agg #[.int .u8 s', .int .u8 u', .int .u16 c', .int .u32 t', .slice x' len' cap'], .int .u16 ap, .int .u16 ct] w fun e w' => e = .returned (.bool true) ∧ Below w.heap.size w w' := by
  have hzc := zero_cm
  have hzr := zero_rpt
  have hzp := zero_rp
  obtain ⟨p0, p1⟩ := bounds_u8 wa
  obtain ⟨q0, q1⟩ := bounds_u8 ws
  obtain ⟨r0, r1⟩ := bounds_u8 wu
  obtain ⟨t0, t1⟩ := bounds_u16 wc
  obtain ⟨q0', q1'⟩ := bounds_u8 ws'
  obtain ⟨r0', r1'⟩ := bounds_u8 wu'
  obtain ⟨t0', t1'⟩ := bounds_u16 wc'
  obtain ⟨u0', u1'⟩ := bounds_u32 wt'
  obtain ⟨v0, v1⟩ := bounds_u16 wap
  obtain ⟨y0, y1⟩ := bounds_u16 wct
  obtain ⟨a, rfl⟩ := Int.eq_ofNat_of_zero_le p0
  obtain ⟨s, rfl⟩ := Int.eq_ofNat_of_zero_le q0
  obtain ⟨u, rfl⟩ := Int.eq_ofNat_of_zero_le r0
  obtain ⟨c, rfl⟩ := Int.eq_ofNat_of_zero_le t0
  obtain ⟨s', rfl⟩ := Int.eq_ofNat_of_zero_le q0'
  obtain ⟨u', rfl⟩ := Int.eq_ofNat_of_zero_le r0'
  obtain ⟨c', rfl⟩ := Int.eq_ofNat_of_zero_le t0'
  obtain ⟨t', rfl⟩ := Int.eq_ofNat_of_zero_le u0'
  obtain ⟨ap, rfl⟩ := Int.eq_ofNat_of_zero_le v0
  obtain ⟨ct, rfl⟩ := Int.eq_ofNat_of_zero_le y0
  have hs : s < 256 := by omega
  have hu : u < 256 := by omega
  have hc : c < 65536 := by omega
  have hs' : s' < 256 := by omega
  have hu' : u' < 256 := by omega
  have hc' : c' < 65536 := by omega
  have ht' : t' < 4294967296 := by omega
  obtain ⟨d, hl, hdb, hr⟩ := isRow_rd wx
  obtain ⟨d', hl', hdb', hr'⟩ := isRow_rd wx'
  obtain ⟨A, hA⟩ : ∃ A, A = a % 16 := ⟨_, rfl⟩
  have hA16 : A < 16 := by omega
  have hAI : Int.tmod (a : Int) 16 = (A : Int) := by rw [Int.tmod_eq_emod_of_nonneg (by omega)]; omega
  obtain ⟨ap', hap'⟩ : ∃ ap', ap' = ap % 2048 := ⟨_, rfl⟩
  obtain ⟨ct', hct'⟩ : ∃ ct', ct' = ct % 16384 := ⟨_, rfl⟩
  have hap2 : ap' < 2048 := by omega
  have hct2 : ct' < 16384 := by omega
  have hapI : Int.tmod (ap : Int) 2048 = (ap' : Int) := by rw [Int.tmod_eq_emod_of_nonneg (by omega)]; omega
  have hctI : Int.tmod (ct : Int) 16384 = (ct' : Int) := by rw [Int.tmod_eq_emod_of_nonneg (by omega)]; omega
  have HL := Lib.hid hl
  have HR := Lib.hid hr
  have HL' := Lib.hid hl'
  have HR' := Lib.hid hr'
  clear wa ws wu wc wx ws' wu' wc' wt' wx' wap wct q0 q1 r0 r1 t0 t1 q0' q1' r0' r1' t0' t1' u0' u1' hl hr hl' hr' hA hap' hct'
  have h3 := heap_alloc2_old w (.cells #[.int .u8 (a : Nat), .int .u8 (s : Nat), .int .u8 (u : Nat), .int .u16 (c : Nat), .slice x len cap] 42) (.cells #[.int .u8 (s' : Nat), .int .u8 (u' : Nat), .int .u16 (c' : Nat), .int .u32 (t' : Nat), .slice x' len' cap'] 59)
  have h4 := heap_alloc2_new w (.cells #[.int .u8 (a : Nat), .int .u8 (s : Nat), .int .u8 (u : Nat), .int .u16 (c : Nat), .slice x len cap] 42) (.cells #[.int .u8 (s' : Nat), .int .u8 (u' : Nat), .int .u16 (c' : Nat), .int .u32 (t' : Nat), .slice x' len' cap'] 59)
  have hB0 : Below w.heap.size w ((w.alloc (.cells #[.int .u8 (a : Nat), .int .u8 (s : Nat), .int .u8 (u : Nat), .int .u16 (c : Nat), .slice x len cap] 42)).alloc (.cells #[.int .u8 (s' : Nat), .int .u8 (u' : Nat), .int .u16 (c' : Nat), .int .u32 (t' : Nat), .slice x' len' cap'] 59)) := by repeat' (first | (with_reducible exact Below.refl _ _) | (with_reducible assumption) | (with_reducible refine Below.setCell ?_ ?_ _) | (with_reducible refine Below.alloc ?_ ?_ _) | (with_reducible refine Below.drew ?_) | (with_reducible refine Below.drawsN ?_ _) | go_size)
  go_enter Try.func7, Try.ntmps7
  go_wp2_with fail
  obtain ⟨W0, hW0⟩ : ∃ W0, W0 = (w.alloc (.cells #[.int .u8 (a : Nat), .int .u8 (s : Nat), .int .u8 (u : Nat), .int .u16 (c : Nat), .slice x len cap] 42)).alloc (.cells #[.int .u8 (s' : Nat), .int .u8 (u' : Nat), .int .u16 (c' : Nat), .int .u32 (t' : Nat), .slice x' len' cap'] 59) := ⟨_, rfl⟩
  obtain ⟨g, hg⟩ : ∃ g, g = w.heap.size := ⟨_, rfl⟩
  rw [← hW0] at hB0 h3 h4 ⊢
  rw [← hg] at h3 h4 ⊢
  have hgB : w.heap.size ≤ g := by omega
  clear hW0 hg
  go_at_call 23
  refine (awake10 _).mono ?_
  rintro e w1 ⟨rfl, hb1⟩
  have hz4 := (Array.getElem?_eq_some_iff.1 h4).1
  have h3 := (hb1.block g (Array.getElem?_eq_some_iff.1 h3).1).trans h3
  have h4 := (hb1.block (g + 1) hz4).trans h4
  have hz1 := (Array.getElem?_eq_some_iff.1 h4).1
  have hB1 := hB0.trans (hb1.mono hB0.size)
  have H3 := Lib.hid h3
  have H4 := Lib.hid h4
  have HB1 := Lib.hid hB1
  have hs1 : w.heap.size ≤ w1.heap.size := hB1.size
  clear hb1 hB0 hz4 h3 h4 hB1
  go_wp2_with fail
  obtain ⟨m, hm⟩ : ∃ m, m = min 150 len := ⟨_, rfl⟩
  obtain ⟨m', hm'⟩ : ∃ m', m' = min 150 len' := ⟨_, rfl⟩
  obtain ⟨D, hD⟩ : ∃ D, D = d.take 150 := ⟨_, rfl⟩
  obtain ⟨D', hD'⟩ : ∃ D', D' = d'.take 150 := ⟨_, rfl⟩
  have hDb : bytes D := by rw [hD]; exact hdb.take 150
  have hDb' : bytes D' := by rw [hD']; exact hdb'.take 150
  have hDl : D.length = m := by rw [hD, hm]; exact bytes_take HL.out
  have hDl' : D'.length = m' := by rw [hD', hm']; exact bytes_take HL'.out
  have hm2 : m ≤ 150 := by omega
  have hm2' : m' ≤ 150 := by omega
  have HM := Lib.hid hm
  have HM' := Lib.hid hm'
  have HD := Lib.hid hD
  have HD' := Lib.hid hD'
  have HDL := Lib.hid hDl
  have HDL' := Lib.hid hDl'
  have HR1 := Lib.hid ((HR.out.below HB1.out).mono hs1)
  have HR1' := Lib.hid ((HR'.out.below HB1.out).mono hs1)
  clear hm hm' hD hD' hDl hDl' hdb hdb' HR HR'
  obtain ⟨I, W, hne, hWI, hIW⟩ := Go.Mix.family (fun v => Below w1.heap.size w1 v) (Below.refl _ _)
  have HJ := Lib.hid hIW
  have HW := Lib.hid hWI
  clear hWI hIW
  refine Go.Flo.wp_region (fun w' => ∃ i, w' = W i) 10 [SpO w1.heap.size D, SpO w1.heap.size D'] (by kernel_rfl) (by kernel_rfl) (by decide) (by rintro _ w' ⟨i, rfl⟩ hb; exact HJ.out _ ((HW.out i).trans (hb.mono (HW.out i).size))) (HJ.out _ (Below.refl _ _).drew) ?_
  simp only [Go.Flo.pair, Go.Mix.calm, List.take, List.drop, if_true, Bool.false_eq_true, if_false, Nat.reduceAdd, Nat.reduceSub]
  have k0 : ∀ i, (W i).cell? ⟨g, 0, none⟩ = some (.int .u8 (a : Nat)) := fun i => cell_of_row _ g 0 _ _ _ (((HW.out i).block g (by omega)).trans H3.out)
  have k4 : ∀ i, (W i).cell? ⟨g, 4, none⟩ = some (.slice x len cap) := fun i => cell_of_row _ g 4 _ _ _ (((HW.out i).block g (by omega)).trans H3.out)
  have k5 : ∀ i, (W i).cell? ⟨g + 1, 4, none⟩ = some (.slice x' len' cap') := fun i => cell_of_row _ (g + 1) 4 _ _ _ (((HW.out i).block (g + 1) (by omega)).trans H4.out)
  (repeat (first | (refine Go.Flo.fw_calm rfl ?_ (fun K hK => ?_); (first | exact Go.Mix.wanted_none rfl | exact Go.Mix.wanted_tt rfl rfl rfl | exact Go.Mix.wanted_ff rfl rfl rfl); go_big_quiet_op; refine hK _ ?_; clear hK K) | (refine Go.Flo.fw_skip ?_ (fun K hK => ?_); (first | exact Go.Mix.wanted_tf rfl rfl rfl | exact Go.Mix.wanted_ft rfl rfl rfl); go_simp; refine hK _ ?_; clear hK K) | (refine Go.Flo.fw_any rfl ?_ (fun K hK => ?_); (first | exact Go.Mix.wanted_none rfl | exact Go.Mix.wanted_tt rfl rfl rfl | exact Go.Mix.wanted_ff rfl rfl rfl); go_simp; (try (go_ints; try go_simp)); refine hK _ ?_; clear hK K)))
  refine Go.Flo.fw_loud rfl ?_ rfl (by simp) (fun wv hwv hav K hK => ?_) (fun v hv K hK => ?_)
  · (first | exact Go.Mix.wanted_none rfl | exact Go.Mix.wanted_tt rfl rfl rfl | exact Go.Mix.wanted_ff rfl rfl rfl)
  · obtain ⟨iv, rfl⟩ := hwv
    have hbv := HW.out iv
    (first | go_big_op | go_simp)
    go_at_call 19
    refine (Cut_any x len cap d 150 _ HL.out ((HR1.out.below hbv).mono hbv.size) (by decide)).mono ?_
    rintro e w' ⟨v, rfl, hown, hbb⟩
    rw [← HM.out, ← HD.out] at hown
    exact hK _ _ (owes_O HDL.out rfl hbb hown hbv.size)
  obtain ⟨y, q, rfl⟩ := ex_O hv
  rw [HDL.out]
  go_simp
  refine hK _ ?_
  clear hK K hv
  (repeat (first | (refine Go.Flo.fw_calm rfl ?_ (fun K hK => ?_); (first | exact Go.Mix.wanted_none rfl | exact Go.Mix.wanted_tt rfl rfl rfl | exact Go.Mix.wanted_ff rfl rfl rfl); go_big_quiet_op; refine hK _ ?_; clear hK K) | (refine Go.Flo.fw_skip ?_ (fun K hK => ?_); (first | exact Go.Mix.wanted_tf rfl rfl rfl | exact Go.Mix.wanted_ft rfl rfl rfl); go_simp; refine hK _ ?_; clear hK K) | (refine Go.Flo.fw_any rfl ?_ (fun K hK => ?_); (first | exact Go.Mix.wanted_none rfl | exact Go.Mix.wanted_tt rfl rfl rfl | exact Go.Mix.wanted_ff rfl rfl rfl); go_simp; (try (go_ints; try go_simp)); refine hK _ ?_; clear hK K)))
  refine Go.Flo.fw_loud rfl ?_ rfl (by simp) (fun wv hwv hav K hK => ?_) (fun v hv K hK => ?_)
  · (first | exact Go.Mix.wanted_none rfl | exact Go.Mix.wanted_tt rfl rfl rfl | exact Go.Mix.wanted_ff rfl rfl rfl)
  · obtain ⟨iv, rfl⟩ := hwv
    have hbv := HW.out iv
    (first | go_big_op | go_simp)
    go_at_call 19
    refine (Cut_any x' len' cap' d' 150 _ HL'.out ((HR1'.out.below hbv).mono hbv.size) (by decide)).mono ?_
    rintro e w' ⟨v, rfl, hown, hbb⟩
    rw [← HM'.out, ← HD'.out] at hown
    exact hK _ _ (owes_O HDL'.out rfl hbb hown hbv.size)
  obtain ⟨y', q', rfl⟩ := ex_O hv
  rw [HDL'.out]
  go_simp
  refine hK _ ?_
  clear hK K hv
  (repeat (first | (refine Go.Flo.fw_calm rfl ?_ (fun K hK => ?_); (first | exact Go.Mix.wanted_none rfl | exact Go.Mix.wanted_tt rfl rfl rfl | exact Go.Mix.wanted_ff rfl rfl rfl); go_big_quiet_op; refine hK _ ?_; clear hK K) | (refine Go.Flo.fw_skip ?_ (fun K hK => ?_); (first | exact Go.Mix.wanted_tf rfl rfl rfl | exact Go.Mix.wanted_ft rfl rfl rfl); go_simp; refine hK _ ?_; clear hK K) | (refine Go.Flo.fw_any rfl ?_ (fun K hK => ?_); (first | exact Go.Mix.wanted_none rfl | exact Go.Mix.wanted_tt rfl rfl rfl | exact Go.Mix.wanted_ff rfl rfl rfl); go_simp; (try (go_ints; try go_simp)); refine hK _ ?_; clear hK K)))
  refine Go.Flo.fw_nil ?_
  intro w2 hww2 hfw2 huw2
  obtain ⟨iend, hiend⟩ := hww2
  have hbw2 := HW.out iend
  rw [← hiend] at hbw2
  clear hiend iend huw2
  have hs1' : w2.ownsRow w1.heap.size 5 1 (.slice y D.length q) D.length (bl D) := by
    have f := hfw2 (some 28)
    iterate 4 (replace f := f.1)
    exact (f.2 rfl).1
  have hs2' : w2.ownsRow w1.heap.size 5 1 (.slice y' D'.length q') D'.length (bl D') := ((hfw2 (some 31)).1.2 rfl).1
  have h3 := (hbw2.block g (by omega)).trans H3.out
  have h4 := (hbw2.block (g + 1) (by omega)).trans H4.out
  have HB2 := Lib.hid (HB1.out.trans (hbw2.mono hs1))
  have hz2 : g + 1 < w2.heap.size := Nat.lt_of_lt_of_le hz1 hbw2.size
  clear hfw2 HJ HW hne k0 k4 k5 hbw2 H3 H4 HB1 HR1 HR1'
  clear W I
  rw [HDL.out] at hs1'
  rw [HDL'.out] at hs2'
  have c0 := cell_of_row w2 g 0 _ _ _ h3
  have f0 := frozen_of_row w2 g 0 _ _ h3
  have ha : (w2.setCell ⟨g, 0, none⟩ (.int .u8 (A : Nat))).heap[g]? = some (.cells #[.int .u8 (A : Nat), .int .u8 (s : Nat), .int .u8 (u : Nat), .int .u16 (c : Nat), .slice x len cap] 42 (0, 0)) := by
    rw [setCell_eq_setRow w2 g 0 _ _ _ _ h3]
    exact setRow_heap _ _ _ _ _ _ h3
  have ha' : (w2.setCell ⟨g, 0, none⟩ (.int .u8 (A : Nat))).heap[g + 1]? = some (.cells #[.int .u8 (s' : Nat), .int .u8 (u' : Nat), .int .u16 (c' : Nat), .int .u32 (t' : Nat), .slice x' len' cap'] 59 (0, 0)) := (heap_setCell_other w2 ⟨g, 0, none⟩ (g + 1) _ (by simp)).trans h4
  have c4 := cell_of_row _ g 4 _ _ _ ha
  have f4 := frozen_of_row _ g 4 _ _ ha
  have hb : ((w2.setCell ⟨g, 0, none⟩ (.int .u8 (A : Nat))).setCell ⟨g, 4, none⟩ (.slice y m q)).heap[g]? = some (.cells #[.int .u8 (A : Nat), .int .u8 (s : Nat), .int .u8 (u : Nat), .int .u16 (c : Nat), .slice y m q] 42 (0, 0)) := by
    rw [setCell_eq_setRow _ g 4 _ _ _ _ ha]
    exact setRow_heap _ _ _ _ _ _ ha
  have hb' : ((w2.setCell ⟨g, 0, none⟩ (.int .u8 (A : Nat))).setCell ⟨g, 4, none⟩ (.slice y m q)).heap[g + 1]? = some (.cells #[.int .u8 (s' : Nat), .int .u8 (u' : Nat), .int .u16 (c' : Nat), .int .u32 (t' : Nat), .slice x' len' cap'] 59 (0, 0)) := (heap_setCell_other _ ⟨g, 4, none⟩ (g + 1) _ (by simp)).trans ha'
  have c5 := cell_of_row _ (g + 1) 4 _ _ _ hb'
  have f5 := frozen_of_row _ (g + 1) 4 _ _ hb'
  have e1 : (((w2.setCell ⟨g, 0, none⟩ (.int .u8 (A : Nat))).setCell ⟨g, 4, none⟩ (.slice y m q)).setCell ⟨g + 1, 4, none⟩ (.slice y' m' q')).heap[g + 1]? = some (.cells #[.int .u8 (s' : Nat), .int .u8 (u' : Nat), .int .u16 (c' : Nat), .int .u32 (t' : Nat), .slice y' m' q'] 59 (0, 0)) := by
    rw [setCell_eq_setRow _ (g + 1) 4 _ _ _ _ hb']
    exact setRow_heap _ _ _ _ _ _ hb'
  have e0 : (((w2.setCell ⟨g, 0, none⟩ (.int .u8 (A : Nat))).setCell ⟨g, 4, none⟩ (.slice y m q)).setCell ⟨g + 1, 4, none⟩ (.slice y' m' q')).heap[g]? = some (.cells #[.int .u8 (A : Nat), .int .u8 (s : Nat), .int .u8 (u : Nat), .int .u16 (c : Nat), .slice y m q] 42 (0, 0)) := (heap_setCell_other _ ⟨g + 1, 4, none⟩ g _ (by simp)).trans hb
  have hgw : g < w1.heap.size := by omega
  have hy3 := own_set (b := g + 1) (i := 4) (x := .slice y' m' q') (own_set (b := g) (i := 4) (x := .slice y m q) (own_set (b := g) (i := 0) (x := .int .u8 (A : Nat)) hs1' hgw) hgw) hz1
  have hy3' := own_set (b := g + 1) (i := 4) (x := .slice y' m' q') (own_set (b := g) (i := 4) (x := .slice y m q) (own_set (b := g) (i := 0) (x := .int .u8 (A : Nat)) hs2' hgw) hgw) hz1
  have hB3 := ((HB2.out.setCell (p := ⟨g, 0, none⟩) hgB (.int .u8 (A : Nat))).setCell (p := ⟨g, 4, none⟩) hgB (.slice y m q)).setCell (p := ⟨g + 1, 4, none⟩) (show w.heap.size ≤ g + 1 by omega) (.slice y' m' q')
  have hz3 : (((w2.setCell ⟨g, 0, none⟩ (.int .u8 (A : Nat))).setCell ⟨g, 4, none⟩ (.slice y m q)).setCell ⟨g + 1, 4, none⟩ (.slice y' m' q')).heap.size = w2.heap.size := by simp
  have E0 := Lib.hid e0
  have E1 := Lib.hid e1
  have HY := Lib.hid (rd_of_own (f := bv D) hy3 (fun i hi => bl_at D (by rw [HDL.out]; exact hi)))
  have HY' := Lib.hid (rd_of_own (f := bv D') hy3' (fun i hi => bl_at D' (by rw [HDL'.out]; exact hi)))
  have HB3 := Lib.hid hB3
  clear e0 e1 hy3 hy3' hB3 hs1' hs2' h3 h4 ha ha' hb hb' HB2
  refine Go.Flo.tw_step ?_ (fun K hK => ?_)
  · (first | exact Go.Mix.wanted_none rfl | exact Go.Mix.wanted_tt rfl rfl rfl | exact Go.Mix.wanted_ff rfl rfl rfl)
  (first | go_big_op | go_simp)
  refine hK _ _ ?_
  clear hK K
  refine Go.Flo.tw_step ?_ (fun K hK => ?_)
  · (first | exact Go.Mix.wanted_none rfl | exact Go.Mix.wanted_tt rfl rfl rfl | exact Go.Mix.wanted_ff rfl rfl rfl)
  (first | go_big_op | go_simp)
  refine hK _ _ ?_
  clear hK K
  refine Go.Flo.tw_step ?_ (fun K hK => ?_)
  · (first | exact Go.Mix.wanted_none rfl | exact Go.Mix.wanted_tt rfl rfl rfl | exact Go.Mix.wanted_ff rfl rfl rfl)
  (first | go_big_op | go_simp)
  refine hK _ _ ?_
  clear hK K
  refine Go.Flo.tw_step ?_ (fun K hK => ?_)
  · (first | exact Go.Mix.wanted_none rfl | exact Go.Mix.wanted_tt rfl rfl rfl | exact Go.Mix.wanted_ff rfl rfl rfl)
  (first | go_big_op | go_simp)
  refine hK _ _ ?_
  clear hK K
  refine Go.Flo.tw_step ?_ (fun K hK => ?_)
  · (first | exact Go.Mix.wanted_none rfl | exact Go.Mix.wanted_tt rfl rfl rfl | exact Go.Mix.wanted_ff rfl rfl rfl)
  (first | go_big_op | go_simp)
  refine hK _ _ ?_
  clear hK K
  refine Go.Flo.tw_nil ?_
  clear c0 f0 c4 f4 c5 f5
  obtain ⟨w3, hw3⟩ : ∃ w3, w3 = ((w2.setCell ⟨g, 0, none⟩ (.int .u8 (A : Nat))).setCell ⟨g, 4, none⟩ (.slice y m q)).setCell ⟨g + 1, 4, none⟩ (.slice y' m' q') := ⟨_, rfl⟩
  rw [← hw3] at E0 E1 HY HY' HB3 hz3 ⊢
  have hz3g : g + 1 < w3.heap.size := by omega
  have hs3 : w.heap.size ≤ w3.heap.size := HB3.out.size
  have ka0 := cell_of_row w3 g 0 _ _ _ E0.out
  have ka1 := cell_of_row w3 g 1 _ _ _ E0.out
  have ka2 := cell_of_row w3 g 2 _ _ _ E0.out
  have ka3 := cell_of_row w3 g 3 _ _ _ E0.out
  have ka4 := cell_of_row w3 g 4 _ _ _ E0.out
  clear hw3 hz3 hz2
  go_wp2_with fail
  go_at_call 30
  refine (Send_any ap' ct' A s u c y m q _ D _ (by omega) (by omega) (by omega) hs hu hc HDL.out (Nat.le_refl _) HY.out hDb).mono ?_
  rintro e w4 ⟨hb4, ⟨hne, _⟩ | ⟨_, v, rfl, hown⟩⟩
  · exact absurd (sd_zero hA16 hap2 hct2 hm2) hne
  obtain ⟨F1, hF1⟩ : ∃ F1, F1 = cmB A s u c D := ⟨_, rfl⟩
  obtain ⟨n1, hn1⟩ : ∃ n1, n1 = m + 5 := ⟨_, rfl⟩
  obtain ⟨M1, hM1⟩ : ∃ M1, M1 = m + 13 := ⟨_, rfl⟩
  obtain ⟨K1, hK1⟩ : ∃ K1, K1 = mkPkt 1 ap' ct' F1 := ⟨_, rfl⟩
  have hF1l : F1.length = n1 := by rw [hF1, cmB_len, HDL.out, hn1]
  have hF1b : bytes F1 := by rw [hF1]; exact cmB_bytes hA16 hs hu hDb
  have hK1l : K1.length = M1 := by rw [hK1, mkPkt_len, hF1l, hn1, hM1]
  have hK1b : bytes K1 := by rw [hK1]; exact mkPkt_bytes (by decide) hap2 hct2 (by rw [hF1l]; omega) hF1b
  rw [← hF1, ← hK1, ← hM1] at hown
  obtain ⟨va, vc, rfl⟩ := own_form hown
  have HF1 := Lib.hid hF1
  have HK1 := Lib.hid hK1
  have HF1L := Lib.hid hF1l
  have HK1L := Lib.hid hK1l
  have hn1' : 0 < n1 ∧ n1 ≤ 200 := by omega
  have hM1' : M1 ≤ 1000 := by omega
  have HV := Lib.hid (rd_of_own (f := bv K1) hown (fun i hi => bl_at K1 (by rw [HK1L.out]; exact hi)))
  have E0 := Lib.hid ((hb4.block g (by omega)).trans E0.out)
  have E1 := Lib.hid ((hb4.block (g + 1) (by omega)).trans E1.out)
  have HY := Lib.hid (rd_grow HY.out hb4)
  have HY' := Lib.hid (rd_grow HY'.out hb4)
  have HB4 := Lib.hid (HB3.out.trans (hb4.mono hs3))
  have hz4 : g + 1 < w4.heap.size := Nat.lt_of_lt_of_le hz3g hb4.size
  have hs4 : w.heap.size ≤ w4.heap.size := HB4.out.size
  clear ka0 ka1 ka2 ka3 ka4 hF1 hK1 hF1l hK1l hn1 hM1 hown hb4 HB3 hz3g hs3
  have ka0 := cell_of_row w4 (g + 1) 0 _ _ _ E1.out
  have ka1 := cell_of_row w4 (g + 1) 1 _ _ _ E1.out
  have ka2 := cell_of_row w4 (g + 1) 2 _ _ _ E1.out
  have ka3 := cell_of_row w4 (g + 1) 3 _ _ _ E1.out
  have ka4 := cell_of_row w4 (g + 1) 4 _ _ _ E1.out
  go_wp2_with fail
  go_at_call 37
  refine (Tell_any ap' ct' s' u' c' t' y' m' q' _ D' _ (by omega) (by omega) hs' hu' hc' ht' HDL'.out (Nat.le_refl _) HY'.out hDb').mono ?_
  rintro e w5 ⟨hb5, ⟨hne, _⟩ | ⟨_, v, rfl, hown⟩⟩
  · exact absurd (tl_zero hap2 hct2 hm2') hne
  obtain ⟨F2, hF2⟩ : ∃ F2, F2 = rpB s' u' c' t' D' := ⟨_, rfl⟩
  obtain ⟨n2, hn2⟩ : ∃ n2, n2 = m' + 11 := ⟨_, rfl⟩
  obtain ⟨M2, hM2⟩ : ∃ M2, M2 = m' + 19 := ⟨_, rfl⟩
  obtain ⟨K2, hK2⟩ : ∃ K2, K2 = mkPkt 0 ap' ct' F2 := ⟨_, rfl⟩
  have hF2l : F2.length = n2 := by rw [hF2, rpB_len, HDL'.out, hn2]
  have hF2b : bytes F2 := by rw [hF2]; exact rpB_bytes hs' hu' hDb'
  have hK2l : K2.length = M2 := by rw [hK2, mkPkt_len, hF2l, hn2, hM2]
  have hK2b : bytes K2 := by rw [hK2]; exact mkPkt_bytes (by decide) hap2 hct2 (by rw [hF2l]; omega) hF2b
  rw [← hF2, ← hK2, ← hM2] at hown
  obtain ⟨ta, tc, rfl⟩ := own_form hown
  have HF2 := Lib.hid hF2
  have HK2 := Lib.hid hK2
  have HF2L := Lib.hid hF2l
  have HK2L := Lib.hid hK2l
  have hn2' : 0 < n2 ∧ n2 ≤ 200 := by omega
  have hM2' : M2 ≤ 1000 := by omega
  have HT := Lib.hid (rd_of_own (f := bv K2) hown (fun i hi => bl_at K2 (by rw [HK2L.out]; exact hi)))
  have HV := Lib.hid (rd_grow HV.out hb5)
  have E0 := Lib.hid ((hb5.block g (by omega)).trans E0.out)
  have E1 := Lib.hid ((hb5.block (g + 1) (by omega)).trans E1.out)
  have HY := Lib.hid (rd_grow HY.out hb5)
  have HY' := Lib.hid (rd_grow HY'.out hb5)
  have HB5 := Lib.hid (HB4.out.trans (hb5.mono hs4))
  have hz5 : g + 1 < w5.heap.size := Nat.lt_of_lt_of_le hz4 hb5.size
  have hs5 : w.heap.size ≤ w5.heap.size := HB5.out.size
  clear ka0 ka1 ka2 ka3 ka4 hF2 hK2 hF2l hK2l hn2 hM2 hown hb5 HB4 hz4 hs4
  go_wp2_with fail
  go_at_call 41
  refine (rParse09 va M1 vc _ K1 _ HK1L.out (Nat.le_refl _) HV.out hK1b (by omega)).mono ?_
  intro e w6 hpost
  rw [HK1.out] at hpost
  obtain ⟨hb6, x6, q6, rfl, hr6⟩ := parsed true rfl (by decide) hap2 hct2 HF1L.out hn1'.1 hn1'.2 hpost
  clear hpost
  have hal : Below w6.heap.size w6 (w6.alloc (.cells #[.bool true, .int .u16 (ap' : Nat), .int .u16 (ct' : Nat), .slice x6 n1 q6] 53)) := (Below.refl _ _).alloc (Nat.le_refl _) _
  have hbox := heap_alloc_new w6 (.cells #[.bool true, .int .u16 (ap' : Nat), .int .u16 (ct' : Nat), .slice x6 n1 q6] 53)
  have hb67 := hb6.trans (hal.mono hb6.size)
  have HX6 := Lib.hid (rd_grow hr6 hal)
  have HT := Lib.hid (rd_grow HT.out hb67)
  have E0 := Lib.hid ((hb67.block g (by omega)).trans E0.out)
  have E1 := Lib.hid ((hb67.block (g + 1) (by omega)).trans E1.out)
  have HY := Lib.hid (rd_grow HY.out hb67)
  have HY' := Lib.hid (rd_grow HY'.out hb67)
  have HB7 := Lib.hid (HB5.out.trans (hb67.mono hs5))
  have EB := Lib.hid hbox
  clear hr6 hb6 hal hbox HB5 HV
  go_wp2_with fail
  obtain ⟨g6, hg6⟩ : ∃ g6, g6 = w6.heap.size := ⟨_, rfl⟩
  obtain ⟨w7, hw7⟩ : ∃ w7, w7 = w6.alloc (.cells #[.bool true, .int .u16 (ap' : Nat), .int .u16 (ct' : Nat), .slice x6 n1 q6] 53) := ⟨_, rfl⟩
  rw [← hg6, ← hw7] at EB
  rw [← hw7] at hb67 HX6 HT E0 E1 HY HY' HB7
  rw [← hg6, ← hw7]
  have hz7 : g + 1 < w7.heap.size := Nat.lt_of_lt_of_le hz5 hb67.size
  have hs7 : w.heap.size ≤ w7.heap.size := HB7.out.size
  have hg6l := (Array.getElem?_eq_some_iff.1 EB.out).1
  clear hg6 hw7 hb67 hz5 hs5
  go_at_call 41
  refine (rParse09 ta M2 tc _ K2 _ HK2L.out (Nat.le_refl _) HT.out hK2b (by omega)).mono ?_
  intro e w8 hpost
  rw [HK2.out] at hpost
  obtain ⟨hb8, x8, q8, rfl, hr8⟩ := parsed false rfl (by decide) hap2 hct2 HF2L.out hn2'.1 hn2'.2 hpost
  clear hpost
  have hal : Below w8.heap.size w8 (w8.alloc (.cells #[.bool false, .int .u16 (ap' : Nat), .int .u16 (ct' : Nat), .slice x8 n2 q8] 53)) := (Below.refl _ _).alloc (Nat.le_refl _) _
  have hbox := heap_alloc_new w8 (.cells #[.bool false, .int .u16 (ap' : Nat), .int .u16 (ct' : Nat), .slice x8 n2 q8] 53)
  have hb89 := hb8.trans (hal.mono hb8.size)
  have HX8 := Lib.hid (rd_grow hr8 hal)
  have HX6 := Lib.hid (rd_grow HX6.out hb89)
  have E0 := Lib.hid ((hb89.block g (by omega)).trans E0.out)
  have E1 := Lib.hid ((hb89.block (g + 1) (by omega)).trans E1.out)
  have eb := (hb89.block g6 hg6l).trans EB.out
  have HY := Lib.hid (rd_grow HY.out hb89)
  have HY' := Lib.hid (rd_grow HY'.out hb89)
  have HB9 := Lib.hid (HB7.out.trans (hb89.mono hs7))
  have hz9 := Nat.lt_of_lt_of_le hz7 hb89.size
  have hs9 : w.heap.size ≤ _ := HB9.out.size
  have kb0 := cell_of_row _ g6 0 _ _ _ eb
  have kb1 := cell_of_row _ g6 1 _ _ _ eb
  have kb3 := cell_of_row _ g6 3 _ _ _ eb
  have hne1 : ((ap' : Int) != (ap' : Int)) = false := by simp
  have hne2 : ((ct' : Int) != (ct' : Int)) = false := by simp
  have EC := Lib.hid hbox
  have hg8l := (Array.getElem?_eq_some_iff.1 hbox).1
  clear hr8 hb8 hal hb89 EB HB7 HT eb hg6l hz7 hs7
  go_wp2_with fail
  have hc0 : cmp0 F1 = A := by rw [HF1.out]; exact (cmp_cm hA16 hc (by rw [HDL.out]; omega)).1
  have hc1 : cmp1 F1 = s := by rw [HF1.out]; exact (cmp_cm hA16 hc (by rw [HDL.out]; omega)).2.1
  have hc2 : cmp2 F1 = u := by rw [HF1.out]; exact (cmp_cm hA16 hc (by rw [HDL.out]; omega)).2.2.1
  have hc3 : cmp3 F1 = c := by rw [HF1.out]; exact (cmp_cm hA16 hc (by rw [HDL.out]; omega)).2.2.2
  have hcD : cmpD F1 = D := by rw [HF1.out]; exact cmpD_cm hA16 (by rw [HDL.out]; omega)
  have hcE : cmErr F1 = 0 := by rw [HF1.out]; exact cmB_err hA16 (by rw [HDL.out]; omega)
  have hr0 : rpp0 F2 = s' := by rw [HF2.out]; exact (rpp_rp hc' ht' (by rw [HDL'.out]; omega)).1
  have hr1 : rpp1 F2 = u' := by rw [HF2.out]; exact (rpp_rp hc' ht' (by rw [HDL'.out]; omega)).2.1
  have hr2 : rpp2 F2 = c' := by rw [HF2.out]; exact (rpp_rp hc' ht' (by rw [HDL'.out]; omega)).2.2.1
  have hr3 : rpp3 F2 = t' := by rw [HF2.out]; exact (rpp_rp hc' ht' (by rw [HDL'.out]; omega)).2.2.2
  have hrD : rppD F2 = D' := by rw [HF2.out]; exact rppD_rp (by rw [HDL'.out]; omega)
  have hrE : rpErr F2 = 0 := by rw [HF2.out]; exact rpB_err (by rw [HDL'.out]; omega)
  obtain ⟨g8, hg8⟩ : ∃ g8, g8 = w8.heap.size := ⟨_, rfl⟩
  obtain ⟨w9, hw9⟩ : ∃ w9, w9 = w8.alloc (.cells #[.bool false, .int .u16 (ap' : Nat), .int .u16 (ct' : Nat), .slice x8 n2 q8] 53) := ⟨_, rfl⟩
  rw [← hg8, ← hw9] at EC hg8l
  rw [← hw9] at HX6 HX8 E0 E1 HY HY' HB9 hz9 hs9 kb0 kb1 kb3
  rw [← hg8, ← hw9]
  have HC0 := Lib.hid hc0
  have HC1 := Lib.hid hc1
  have HC2 := Lib.hid hc2
  have HC3 := Lib.hid hc3
  have HCD := Lib.hid hcD
  have HCE := Lib.hid hcE
  have HR0 := Lib.hid hr0
  have HR1 := Lib.hid hr1
  have HR2 := Lib.hid hr2
  have HR3 := Lib.hid hr3
  have HRD := Lib.hid hrD
  have HRE := Lib.hid hrE
  clear hc0 hc1 hc2 hc3 hcD hcE hr0 hr1 hr2 hr3 hrD hrE kb0 kb1 kb3 hg8 hw9 hne1 hne2
  go_at_call 27
  refine (cmParse_any x6 n1 q6 _ F1 _ HF1L.out (Nat.le_refl _) HX6.out hF1b (by omega)).mono ?_
  intro e w10 hpost
  obtain ⟨hb10, x10, q10, rfl, hr10⟩ := hpost.one
  clear hpost
  rw [HCD.out, HDL.out] at hr10
  rw [HC0.out, HC1.out, HC2.out, HC3.out, HCD.out, HDL.out, HCE.out]
  have hal : Below w10.heap.size w10 (w10.alloc (.cells #[.int .u8 (A : Nat), .int .u8 (s : Nat), .int .u8 (u : Nat), .int .u16 (c : Nat), .slice x10 m q10] 42)) := (Below.refl _ _).alloc (Nat.le_refl _) _
  have hbox := heap_alloc_new w10 (.cells #[.int .u8 (A : Nat), .int .u8 (s : Nat), .int .u8 (u : Nat), .int .u16 (c : Nat), .slice x10 m q10] 42)
  have hb1 := hb10.trans (hal.mono hb10.size)
  have HX10 := Lib.hid (rd_grow hr10 hal)
  have HX8 := Lib.hid (rd_grow HX8.out hb1)
  have E0 := Lib.hid ((hb1.block g (by omega)).trans E0.out)
  have E1 := Lib.hid ((hb1.block (g + 1) (by omega)).trans E1.out)
  have ec := (hb1.block g8 hg8l).trans EC.out
  have HY := Lib.hid (rd_grow HY.out hb1)
  have HY' := Lib.hid (rd_grow HY'.out hb1)
  have HB11 := Lib.hid (HB9.out.trans (hb1.mono hs9))
  have ED := Lib.hid hbox
  have kd3 := cell_of_row _ g8 3 _ _ _ ec
  have hz11 := Nat.lt_of_lt_of_le hz9 hb1.size
  have hdl := (Array.getElem?_eq_some_iff.1 hbox).1
  have hs11 := HB11.out.size
  clear hr10 hb10 hal hbox hb1 EC HB9 HX6 ec hz9 hs9
  go_wp2_with fail
  obtain ⟨g10, hg10⟩ : ∃ g10, g10 = w10.heap.size := ⟨_, rfl⟩
  obtain ⟨w11, hw11⟩ : ∃ w11, w11 = w10.alloc (.cells #[.int .u8 (A : Nat), .int .u8 (s : Nat), .int .u8 (u : Nat), .int .u16 (c : Nat), .slice x10 m q10] 42) := ⟨_, rfl⟩
  rw [← hg10, ← hw11] at ED hdl
  rw [← hw11] at HX10 HX8 E0 E1 HY HY' HB11 hz11 hs11 kd3
  rw [← hg10, ← hw11]
  clear hg10 hw11 kd3
  go_at_call 35
  refine (rpParse_any x8 n2 q8 _ F2 _ HF2L.out (Nat.le_refl _) HX8.out hF2b (by omega)).mono ?_
  intro e w12 hpost
  obtain ⟨hb12, x12, q12, rfl, hr12⟩ := hpost.one
  clear hpost
  rw [HRD.out, HDL'.out] at hr12
  rw [HR0.out, HR1.out, HR2.out, HR3.out, HRD.out, HDL'.out, HRE.out]
  have hal : Below w12.heap.size w12 (w12.alloc (.cells #[.int .u8 (s' : Nat), .int .u8 (u' : Nat), .int .u16 (c' : Nat), .int .u32 (t' : Nat), .slice x12 m' q12] 59)) := (Below.refl _ _).alloc (Nat.le_refl _) _
  have hbox := heap_alloc_new w12 (.cells #[.int .u8 (s' : Nat), .int .u8 (u' : Nat), .int .u16 (c' : Nat), .int .u32 (t' : Nat), .slice x12 m' q12] 59)
  have hb1 := hb12.trans (hal.mono hb12.size)
  have HX12 := Lib.hid (rd_grow hr12 hal)
  have HX10 := Lib.hid (rd_grow HX10.out hb1)
  have E0 := Lib.hid ((hb1.block g (by omega)).trans E0.out)
  have E1 := Lib.hid ((hb1.block (g + 1) (by omega)).trans E1.out)
  have ED := Lib.hid ((hb1.block g10 hdl).trans ED.out)
  have HY := Lib.hid (rd_grow HY.out hb1)
  have HY' := Lib.hid (rd_grow HY'.out hb1)
  have HB13 := Lib.hid (HB11.out.trans (hb1.mono hs11))
  have EE := Lib.hid hbox
  have hz13 := Nat.lt_of_lt_of_le hz11 hb1.size
  have hdl13 := Nat.lt_of_lt_of_le hdl hb1.size
  have hel := (Array.getElem?_eq_some_iff.1 hbox).1
  clear hr12 hb12 hal hbox hb1 HB11 HX8 hz11 hs11 hdl
  go_wp2_with fail
  obtain ⟨g12, hg12⟩ : ∃ g12, g12 = w12.heap.size := ⟨_, rfl⟩
  obtain ⟨w13, hw13⟩ : ∃ w13, w13 = w12.alloc (.cells #[.int .u8 (s' : Nat), .int .u8 (u' : Nat), .int .u16 (c' : Nat), .int .u32 (t' : Nat), .slice x12 m' q12] 59) := ⟨_, rfl⟩
  rw [← hg12, ← hw13] at EE hel
  rw [← hw13] at HX12 HX10 E0 E1 ED HY HY' HB13 hz13 hdl13
  rw [← hg12, ← hw13]
  clear hg12 hw13
  obtain ⟨I, W, hne, hWI, hIW⟩ := Go.Mix.family (fun v => Below w13.heap.size w13 v) (Below.refl _ _)
  have HJ := Lib.hid hIW
  have HW := Lib.hid hWI
  clear hWI hIW
  refine Go.Flo.wp_region (fun w' => ∃ i, w' = W i) 48 [Go.Flo.Spec.is (.agg #[.int .u8 (A : Nat), .int .u8 (s : Nat), .int .u8 (u : Nat), .int .u16 (c : Nat), .slice y m q]), Go.Flo.Spec.is (.bool true), Go.Flo.Spec.is (.bool true)] (by kernel_rfl) (by kernel_rfl) (by decide) (by rintro _ w' ⟨i, rfl⟩ hb; exact HJ.out _ ((HW.out i).trans (hb.mono (HW.out i).size))) (HJ.out _ (Below.refl _ _).drew) ?_
  simp only [Go.Flo.pair, Go.Mix.calm, List.take, List.drop, if_true, Bool.false_eq_true, if_false, Nat.reduceAdd, Nat.reduceSub]
  have ke0 : ∀ i, (W i).cell? ⟨g12, 0, none⟩ = some (.int .u8 (s' : Nat)) := fun i => cell_of_row _ g12 0 _ _ _ (((HW.out i).block g12 hel).trans EE.out)
  have ke1 : ∀ i, (W i).cell? ⟨g12, 1, none⟩ = some (.int .u8 (u' : Nat)) := fun i => cell_of_row _ g12 1 _ _ _ (((HW.out i).block g12 hel).trans EE.out)
  have ke2 : ∀ i, (W i).cell? ⟨g12, 2, none⟩ = some (.int .u16 (c' : Nat)) := fun i => cell_of_row _ g12 2 _ _ _ (((HW.out i).block g12 hel).trans EE.out)
  have ke3 : ∀ i, (W i).cell? ⟨g12, 3, none⟩ = some (.int .u32 (t' : Nat)) := fun i => cell_of_row _ g12 3 _ _ _ (((HW.out i).block g12 hel).trans EE.out)
  have ke4 : ∀ i, (W i).cell? ⟨g12, 4, none⟩ = some (.slice x12 m' q12) := fun i => cell_of_row _ g12 4 _ _ _ (((HW.out i).block g12 hel).trans EE.out)
  have kf0 : ∀ i, (W i).cell? ⟨g + 1, 0, none⟩ = some (.int .u8 (s' : Nat)) := fun i => cell_of_row _ (g + 1) 0 _ _ _ (((HW.out i).block (g + 1) hz13).trans E1.out)
  have kf1 : ∀ i, (W i).cell? ⟨g + 1, 1, none⟩ = some (.int .u8 (u' : Nat)) := fun i => cell_of_row _ (g + 1) 1 _ _ _ (((HW.out i).block (g + 1) hz13).trans E1.out)
  have kf2 : ∀ i, (W i).cell? ⟨g + 1, 2, none⟩ = some (.int .u16 (c' : Nat)) := fun i => cell_of_row _ (g + 1) 2 _ _ _ (((HW.out i).block (g + 1) hz13).trans E1.out)
  have kf3 : ∀ i, (W i).cell? ⟨g + 1, 3, none⟩ = some (.int .u32 (t' : Nat)) := fun i => cell_of_row _ (g + 1) 3 _ _ _ (((HW.out i).block (g + 1) hz13).trans E1.out)
  have kf4 : ∀ i, (W i).cell? ⟨g + 1, 4, none⟩ = some (.slice y' m' q') := fun i => cell_of_row _ (g + 1) 4 _ _ _ (((HW.out i).block (g + 1) hz13).trans E1.out)
  have hs1 : ((s' : Int) == (s' : Int)) = true := by simp
  have hs2 : ((u' : Int) == (u' : Int)) = true := by simp
  have hs3 : ((c' : Int) == (c' : Int)) = true := by simp
  have hs4 : ((t' : Int) == (t' : Int)) = true := by simp
  (repeat (first | (refine Go.Flo.fw_calm rfl ?_ (fun K hK => ?_); (first | exact Go.Mix.wanted_none rfl | exact Go.Mix.wanted_tt rfl rfl rfl | exact Go.Mix.wanted_ff rfl rfl rfl); go_big_quiet_op; refine hK _ ?_; clear hK K) | (refine Go.Flo.fw_skip ?_ (fun K hK => ?_); (first | exact Go.Mix.wanted_tf rfl rfl rfl | exact Go.Mix.wanted_ft rfl rfl rfl); go_simp; refine hK _ ?_; clear hK K) | (refine Go.Flo.fw_any rfl ?_ (fun K hK => ?_); (first | exact Go.Mix.wanted_none rfl | exact Go.Mix.wanted_tt rfl rfl rfl | exact Go.Mix.wanted_ff rfl rfl rfl); go_simp; (try (go_ints; try go_simp)); refine hK _ ?_; clear hK K)))
  (refine Go.Flo.fw_calm rfl ?_ (fun K hK => ?_); (first | exact Go.Mix.wanted_none rfl | exact Go.Mix.wanted_tt rfl rfl rfl | exact Go.Mix.wanted_ff rfl rfl rfl); refine Go.Flo.quiet_load_row 42 _ rfl g10 rfl _ #[.int .u8 (A : Nat), .int .u8 (s : Nat), .int .u8 (u : Nat), .int .u16 (c : Nat), .slice x10 m q10] _ (by rintro _ ⟨i, rfl⟩; exact ((HW.out i).block g10 hdl13).trans ED.out) Try.underlying42 rfl size_cm ?_; go_simp; refine hK _ ?_; clear hK K)
  (refine Go.Flo.fw_calm rfl ?_ (fun K hK => ?_); (first | exact Go.Mix.wanted_none rfl | exact Go.Mix.wanted_tt rfl rfl rfl | exact Go.Mix.wanted_ff rfl rfl rfl); refine Go.Flo.quiet_load_row 42 _ rfl g rfl _ #[.int .u8 (A : Nat), .int .u8 (s : Nat), .int .u8 (u : Nat), .int .u16 (c : Nat), .slice y m q] _ (by rintro _ ⟨i, rfl⟩; exact ((HW.out i).block g (by omega)).trans E0.out) Try.underlying42 rfl size_cm ?_; go_simp; refine hK _ ?_; clear hK K)
  (repeat (first | (refine Go.Flo.fw_calm rfl ?_ (fun K hK => ?_); (first | exact Go.Mix.wanted_none rfl | exact Go.Mix.wanted_tt rfl rfl rfl | exact Go.Mix.wanted_ff rfl rfl rfl); go_big_quiet_op; refine hK _ ?_; clear hK K) | (refine Go.Flo.fw_skip ?_ (fun K hK => ?_); (first | exact Go.Mix.wanted_tf rfl rfl rfl | exact Go.Mix.wanted_ft rfl rfl rfl); go_simp; refine hK _ ?_; clear hK K) | (refine Go.Flo.fw_any rfl ?_ (fun K hK => ?_); (first | exact Go.Mix.wanted_none rfl | exact Go.Mix.wanted_tt rfl rfl rfl | exact Go.Mix.wanted_ff rfl rfl rfl); go_simp; (try (go_ints; try go_simp)); refine hK _ ?_; clear hK K)))
  refine Go.Flo.fw_loud rfl ?_ rfl (by simp) (fun wv hwv hav K hK => ?_) (fun v hv K hK => ?_)
  · (first | exact Go.Mix.wanted_none rfl | exact Go.Mix.wanted_tt rfl rfl rfl | exact Go.Mix.wanted_ff rfl rfl rfl)
  · obtain ⟨iv, rfl⟩ := hwv
    have hbv := HW.out iv
    (first | go_big_op | go_simp)
    go_at_call 26
    refine (own10 A s u c m q y _).mono ?_
    rintro e w' ⟨rfl, hbb⟩
    exact hK _ _ (Go.Flo.owes_is _ rfl hbb)
  obtain rfl := hv.is
  go_simp
  refine hK _ ?_
  clear hK K hv
  (repeat (first | (refine Go.Flo.fw_calm rfl ?_ (fun K hK => ?_); (first | exact Go.Mix.wanted_none rfl | exact Go.Mix.wanted_tt rfl rfl rfl | exact Go.Mix.wanted_ff rfl rfl rfl); go_big_quiet_op; refine hK _ ?_; clear hK K) | (refine Go.Flo.fw_skip ?_ (fun K hK => ?_); (first | exact Go.Mix.wanted_tf rfl rfl rfl | exact Go.Mix.wanted_ft rfl rfl rfl); go_simp; refine hK _ ?_; clear hK K) | (refine Go.Flo.fw_any rfl ?_ (fun K hK => ?_); (first | exact Go.Mix.wanted_none rfl | exact Go.Mix.wanted_tt rfl rfl rfl | exact Go.Mix.wanted_ff rfl rfl rfl); go_simp; (try (go_ints; try go_simp)); refine hK _ ?_; clear hK K)))
  refine Go.Flo.fw_loud rfl ?_ rfl (by simp) (fun wv hwv hav K hK => ?_) (fun v hv K hK => ?_)
  · (first | exact Go.Mix.wanted_none rfl | exact Go.Mix.wanted_tt rfl rfl rfl | exact Go.Mix.wanted_ff rfl rfl rfl)
  · obtain ⟨iv, rfl⟩ := hwv
    have hbv := HW.out iv
    (first | go_big_op | go_simp)
    go_at_call 29
    refine (like10 A s u c m q10 q _ _ x10 y D _ HDL.out (Nat.le_refl _) (Nat.le_refl _) ((HX10.out.below hbv).mono hbv.size) ((HY.out.below hbv).mono hbv.size) hDb).mono ?_
    rintro e w' ⟨rfl, hbb⟩
    exact hK _ _ (Go.Flo.owes_is _ rfl hbb)
  obtain rfl := hv.is
  go_simp
  refine hK _ ?_
  clear hK K hv
  (repeat (first | (refine Go.Flo.fw_calm rfl ?_ (fun K hK => ?_); (first | exact Go.Mix.wanted_none rfl | exact Go.Mix.wanted_tt rfl rfl rfl | exact Go.Mix.wanted_ff rfl rfl rfl); go_big_quiet_op; refine hK _ ?_; clear hK K) | (refine Go.Flo.fw_skip ?_ (fun K hK => ?_); (first | exact Go.Mix.wanted_tf rfl rfl rfl | exact Go.Mix.wanted_ft rfl rfl rfl); go_simp; refine hK _ ?_; clear hK K) | (refine Go.Flo.fw_any rfl ?_ (fun K hK => ?_); (first | exact Go.Mix.wanted_none rfl | exact Go.Mix.wanted_tt rfl rfl rfl | exact Go.Mix.wanted_ff rfl rfl rfl); go_simp; (try (go_ints; try go_simp)); refine hK _ ?_; clear hK K)))
  refine Go.Flo.fw_loud rfl ?_ rfl (by simp) (fun wv hwv hav K hK => ?_) (fun v hv K hK => ?_)
  · (first | exact Go.Mix.wanted_none rfl | exact Go.Mix.wanted_tt rfl rfl rfl | exact Go.Mix.wanted_ff rfl rfl rfl)
  · obtain ⟨iv, rfl⟩ := hwv
    have hbv := HW.out iv
    (first | go_big_op | go_simp)
    go_at_call 21
    refine (Same_any x12 y' m' m' q12 q' _ _ D' D' _ HDL'.out HDL'.out ((HX12.out.below hbv).mono hbv.size) ((HY'.out.below hbv).mono hbv.size) hDb' hDb').mono ?_
    rintro e w' ⟨rfl, j, hj⟩
    simp only [decide_true]
    exact hK _ _ (Go.Flo.owes_is _ rfl (by rw [hj]; exact below_drews _ _ _))
  obtain rfl := hv.is
  go_simp
  refine hK _ ?_
  clear hK K hv
  (repeat (first | (refine Go.Flo.fw_calm rfl ?_ (fun K hK => ?_); (first | exact Go.Mix.wanted_none rfl | exact Go.Mix.wanted_tt rfl rfl rfl | exact Go.Mix.wanted_ff rfl rfl rfl); go_big_quiet_op; refine hK _ ?_; clear hK K) | (refine Go.Flo.fw_skip ?_ (fun K hK => ?_); (first | exact Go.Mix.wanted_tf rfl rfl rfl | exact Go.Mix.wanted_ft rfl rfl rfl); go_simp; refine hK _ ?_; clear hK K) | (refine Go.Flo.fw_any rfl ?_ (fun K hK => ?_); (first | exact Go.Mix.wanted_none rfl | exact Go.Mix.wanted_tt rfl rfl rfl | exact Go.Mix.wanted_ff rfl rfl rfl); go_simp; (try (go_ints; try go_simp)); refine hK _ ?_; clear hK K)))
  refine Go.Flo.fw_nil ?_
  intro w14 hww14 hfw14 huw14
  refine Go.Flo.tw_nil ?_
  obtain ⟨iend, hiend⟩ := hww14
  have hbw14 := HW.out iend
  rw [← hiend] at hbw14
  clear hiend iend huw14
  clear hfw14 HJ HW hne ke0 ke1 ke2 ke3 ke4 kf0 kf1 kf2 kf3 kf4
  clear W I
  go_wp2
  go_ret
  exact ⟨rfl, HB13.out.trans (hbw14.mono HB13.out.size)⟩
end Go.Proofs.Ytfolebogfapmaaa
