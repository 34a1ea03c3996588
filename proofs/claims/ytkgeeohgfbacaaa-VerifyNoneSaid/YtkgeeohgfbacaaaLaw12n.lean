/- VerifyNone, walked. -/
import Derived.Test.YtkgeeohgfbacaaaVfA
import Derived.Test.YtkgeeohgfbacaaaLaw05
namespace Go.Proofs.Ytkgeeohgfbacaaa
open Go.RowKit Go.Own Go.Maps
set_option linter.unusedVariables false
set_option linter.unusedSimpArgs false
theorem sd_zeroV {ap ct a m : Nat} (ha : a < 16) (hap : ap < 2048) (hct : ct < 16384) (hm : m ≤ 150) : sdErr ap ct a m = 0 := by
  have h : cmBad a m = 0 := by unfold cmBad; rw [if_neg (by omega), if_neg (by omega)]
  unfold sdErr
  rw [h, if_neg (by simp)]
  unfold pkRight
  rw [if_neg (by omega), if_neg (by omega)]
theorem own_setB {w : World} {B m b i : Nat} {v x : Value} {xs : List Value} (h : w.ownsRow B 5 1 v m xs) (hg : b < B) : (w.setCell ⟨b, i, none⟩ x).ownsRow B 5 1 v m xs :=
  h.kept (grown_set w ⟨b, i, none⟩ x) (.inr (fun e => by have := (h.lt b e).1; omega))
/-- The table of all subs of a service, below k. -/
def tk (s k : Nat) : Nat → Nat → Option (Int × Int) := fun s' u' => if s' = s ∧ u' < k then some (0, 200) else none
theorem tk_zero (s : Nat) : tk s 0 = fun _ _ => none := by funext s' u'; simp [tk]
theorem tk_succ (s k : Nat) : updT (tk s k) s k (0, 200) = tk s (k + 1) := by
  funext s' u'
  unfold updT tk
  by_cases e : s' = s ∧ u' = k
  · rw [if_pos e, if_pos ⟨e.1, by omega⟩]
  · rw [if_neg e]
    by_cases e2 : s' = s ∧ u' < k
    · rw [if_pos e2, if_pos ⟨e2.1, by omega⟩]
    · rw [if_neg e2, if_neg (fun h => e2 ⟨h.1, by have : ¬ u' = k := fun h' => e ⟨h.1, h'⟩; omega⟩)]
theorem tk_knows (s sv : Nat) : decide (sv = s) = true ↔ KnowsT (tk s 256) sv := by
  rw [decide_eq_true_eq]
  unfold KnowsT tk
  constructor
  · rintro rfl
    exact ⟨0, by omega, by rw [if_pos ⟨rfl, by omega⟩]; rfl⟩
  · rintro ⟨u, hu, h⟩
    by_cases e : sv = s ∧ u < 256
    · exact e.1
    · rw [if_neg e] at h; cases h
theorem tk_judge {s u m : Nat} (hu : u < 256) (hm : m ≤ 200) : jdT (tk s 256) s u m = 0 := by
  rw [jdT_some (p := 0) (q := 200) ((knB_iff _ _).2 ((tk_knows s s).1 (by simp))) (by unfold tk; rw [if_pos ⟨rfl, hu⟩])]
  rw [if_neg (by omega)]
theorem none_judge (s u m : Nat) : jdT (fun _ _ => none) s u m = 4 := jdT_no (by unfold knB; simp)
/-- Where VerifyNone stands: the command's box, the packet. -/
structure NSt (w wr : World) (g : Nat) (C : Array Value) (ga : Option Addr) (M qa : Nat) (K : List Nat) : Prop where
  hp : wr.heap[g]? = some (.cells C 71 (0, 0))
  rd : Rd wr.heap.size wr ga M qa (bv K)
  bel : Below w.heap.size w wr
theorem NSt.below {w wr w' : World} {g : Nat} {C : Array Value} {ga : Option Addr} {M qa : Nat} {K : List Nat} (h : NSt w wr g C ga M qa K) (hb : Below wr.heap.size wr w') : NSt w w' g C ga M qa K :=
  ⟨(hb.block g (box_lt h.hp)).trans h.hp, (h.rd.below hb).mono hb.size, h.bel.trans (hb.mono h.bel.size)⟩
/-- A verdict's box: its code. -/
structure NBx (wr : World) (b : Nat) (k : Int) : Prop where
  lt : b < wr.heap.size
  c : wr.cell? ⟨b, 0, none⟩ = some (.int .u8 k)
theorem NBx.below {wr w' : World} {b : Nat} {k : Int} (h : NBx wr b k) (hb : Below wr.heap.size wr w') : NBx w' b k := ⟨Nat.lt_of_lt_of_le h.lt hb.size, (hb.cell (p := ⟨b, 0, none⟩) h.lt).trans h.c⟩
/- #1 the call's world, #2 behind it, #3 the box's world, #4 the box, #5 the code, #6 the next region, #7 the call's contract's judge -/
set_option maxRecDepth 100000 in
set_option maxHeartbeats 8000000 in
theorem walk_VerifyNone (a s u c : Int) (x : Option Addr) (len cap : Nat) (z : List Int) (ap sv : Int) (w : World)
    (wa : (Lit.int .u8 a).wf = true) (ws : (Lit.int .u8 s).wf = true) (wu : (Lit.int .u8 u).wf = true) (wc : (Lit.int .u16 c).wf = true) (wx : IsRow .u8 w x len cap z) (wap : (Lit.int .u16 ap).wf = true) (wsv : (Lit.int .u8 sv).wf = true) :
    Calls Try.prog 6 #[.agg #[.int .u8 a, .int .u8 s, .int .u8 u, .int .u16 c, .slice x len cap], .int .u16 ap, .int .u8 sv] w fun e w' => e = .returned (.bool true) ∧ Below w.heap.size w w' := by
  have hzf := form_zero
  have hmm := @run_makeMap Try.prog
  obtain ⟨p0, p1⟩ := bounds_u8 wa
  obtain ⟨q0, q1⟩ := bounds_u8 ws
  obtain ⟨r0, r1⟩ := bounds_u8 wu
  obtain ⟨t0, t1⟩ := bounds_u16 wc
  obtain ⟨v0, v1⟩ := bounds_u16 wap
  obtain ⟨y0, y1⟩ := bounds_u8 wsv
  obtain ⟨a, rfl⟩ := Int.eq_ofNat_of_zero_le p0
  obtain ⟨s, rfl⟩ := Int.eq_ofNat_of_zero_le q0
  obtain ⟨u, rfl⟩ := Int.eq_ofNat_of_zero_le r0
  obtain ⟨c, rfl⟩ := Int.eq_ofNat_of_zero_le t0
  obtain ⟨ap, rfl⟩ := Int.eq_ofNat_of_zero_le v0
  obtain ⟨sv, rfl⟩ := Int.eq_ofNat_of_zero_le y0
  have hs : s < 256 := by omega
  have hu : u < 256 := by omega
  have hc : c < 65536 := by omega
  have hsv : sv < 256 := by omega
  obtain ⟨d, hl, hdb, hr⟩ := isRow_rd wx
  obtain ⟨A, hA⟩ : ∃ A, A = a % 16 := ⟨_, rfl⟩
  have hA16 : A < 16 := by omega
  have hAI : Int.tmod (a : Int) 16 = (A : Int) := by rw [Int.tmod_eq_emod_of_nonneg (by omega)]; omega
  obtain ⟨ap', hap'⟩ : ∃ ap', ap' = ap % 2048 := ⟨_, rfl⟩
  have hap2 : ap' < 2048 := by omega
  have hapI : Int.tmod (ap : Int) 2048 = (ap' : Int) := by rw [Int.tmod_eq_emod_of_nonneg (by omega)]; omega
  have HL := Lib.hid hl
  have HR := Lib.hid hr
  clear wa ws wu wc wx wap wsv q0 q1 r0 r1 t0 t1 y0 y1 hl hr hA hap'
  have h3 := heap_alloc_new w (.cells #[.int .u8 (a : Nat), .int .u8 (s : Nat), .int .u8 (u : Nat), .int .u16 (c : Nat), .slice x len cap] 71)
  have hB0 : Below w.heap.size w (w.alloc (.cells #[.int .u8 (a : Nat), .int .u8 (s : Nat), .int .u8 (u : Nat), .int .u16 (c : Nat), .slice x len cap] 71)) := (Below.refl _ _).alloc (Nat.le_refl _) _
  go_enter Try.func6, Try.ntmps6
  go_wp2_with fail
  obtain ⟨W0, hW0⟩ : ∃ W0, W0 = w.alloc (.cells #[.int .u8 (a : Nat), .int .u8 (s : Nat), .int .u8 (u : Nat), .int .u16 (c : Nat), .slice x len cap] 71) := ⟨_, rfl⟩
  obtain ⟨g, hg⟩ : ∃ g, g = w.heap.size := ⟨_, rfl⟩
  rw [← hW0] at hB0 h3 ⊢
  rw [← hg] at h3 ⊢
  have hgB : w.heap.size ≤ g := by omega
  clear hW0 hg
  go_at_call 36
  refine (awake12 _).mono ?_
  rintro e w1 ⟨rfl, hb1⟩
  have h3 := (hb1.block g (Array.getElem?_eq_some_iff.1 h3).1).trans h3
  have hz1 := (Array.getElem?_eq_some_iff.1 h3).1
  have hB1 := hB0.trans (hb1.mono hB0.size)
  have H3 := Lib.hid h3
  have HB1 := Lib.hid hB1
  have hs1 : w.heap.size ≤ w1.heap.size := hB1.size
  clear hb1 hB0 h3 hB1
  go_wp2_with fail
  obtain ⟨m, hm⟩ : ∃ m, m = min 100 len := ⟨_, rfl⟩
  obtain ⟨D, hD⟩ : ∃ D, D = d.take 100 := ⟨_, rfl⟩
  have hDb : bytes D := by rw [hD]; exact hdb.take 100
  have hDl : D.length = m := by rw [hD, hm]; exact bytes_take HL.out
  have hm2 : m ≤ 100 := by omega
  have HM := Lib.hid hm
  have HD := Lib.hid hD
  have HDL := Lib.hid hDl
  have HR1 := Lib.hid ((HR.out.below HB1.out).mono hs1)
  clear hm hD hDl hdb HR
  obtain ⟨I, W, hne, hWI, hIW⟩ := Go.Mix.family (fun v => Below w1.heap.size w1 v) (Below.refl _ _)
  have HJ := Lib.hid hIW
  have HW := Lib.hid hWI
  clear hWI hIW
  refine Go.Flo.wp_region (fun w' => ∃ i, w' = W i) 7 [SpO w1.heap.size D] (by kernel_rfl) (by kernel_rfl) (by decide) (by rintro _ w' ⟨i, rfl⟩ hb; exact HJ.out _ ((HW.out i).trans (hb.mono (HW.out i).size))) (HJ.out _ (Below.refl _ _).drew) ?_
  simp only [Go.Flo.pair, Go.Mix.calm, List.take, List.drop, if_true, Bool.false_eq_true, if_false, Nat.reduceAdd, Nat.reduceSub]
  have k0 : ∀ i, (W i).cell? ⟨g, 0, none⟩ = some (.int .u8 (a : Nat)) := fun i => cell_of_row _ g 0 _ _ _ (((HW.out i).block g (by omega)).trans H3.out)
  have k4 : ∀ i, (W i).cell? ⟨g, 4, none⟩ = some (.slice x len cap) := fun i => cell_of_row _ g 4 _ _ _ (((HW.out i).block g (by omega)).trans H3.out)
  (repeat (first | (refine Go.Flo.fw_calm rfl ?_ (fun K hK => ?_); (first | exact Go.Mix.wanted_none rfl | exact Go.Mix.wanted_tt rfl rfl rfl | exact Go.Mix.wanted_ff rfl rfl rfl); go_big_quiet_op; refine hK _ ?_; clear hK K) | (refine Go.Flo.fw_skip ?_ (fun K hK => ?_); (first | exact Go.Mix.wanted_tf rfl rfl rfl | exact Go.Mix.wanted_ft rfl rfl rfl); go_simp; refine hK _ ?_; clear hK K) | (refine Go.Flo.fw_any rfl ?_ (fun K hK => ?_); (first | exact Go.Mix.wanted_none rfl | exact Go.Mix.wanted_tt rfl rfl rfl | exact Go.Mix.wanted_ff rfl rfl rfl); go_simp; (try (go_ints; try go_simp)); refine hK _ ?_; clear hK K)))
  refine Go.Flo.fw_loud rfl ?_ rfl (by simp) (fun wv hwv hav K hK => ?_) (fun v hv K hK => ?_)
  · (first | exact Go.Mix.wanted_none rfl | exact Go.Mix.wanted_tt rfl rfl rfl | exact Go.Mix.wanted_ff rfl rfl rfl)
  · obtain ⟨iv, rfl⟩ := hwv
    have hbv := HW.out iv
    (first | go_big_op | go_simp)
    go_at_call 26
    refine (Cut_any x len cap d 100 _ HL.out ((HR1.out.below hbv).mono hbv.size) (by decide)).mono ?_
    rintro e w' ⟨v, rfl, hown, hbb⟩
    rw [← HM.out, ← HD.out] at hown
    exact hK _ _ (owes_O HDL.out rfl hbb hown hbv.size)
  obtain ⟨y, q, rfl⟩ := ex_O hv
  rw [HDL.out]
  go_simp
  refine hK _ ?_
  clear hK K hv
  (repeat (first | (refine Go.Flo.fw_calm rfl ?_ (fun K hK => ?_); (first | exact Go.Mix.wanted_none rfl | exact Go.Mix.wanted_tt rfl rfl rfl | exact Go.Mix.wanted_ff rfl rfl rfl); go_big_quiet_op; refine hK _ ?_; clear hK K) | (refine Go.Flo.fw_skip ?_ (fun K hK => ?_); (first | exact Go.Mix.wanted_tf rfl rfl rfl | exact Go.Mix.wanted_ft rfl rfl rfl); go_simp; refine hK _ ?_; clear hK K) | (refine Go.Flo.fw_any rfl ?_ (fun K hK => ?_); (first | exact Go.Mix.wanted_none rfl | exact Go.Mix.wanted_tt rfl rfl rfl | exact Go.Mix.wanted_ff rfl rfl rfl); go_simp; (try (go_ints; try go_simp)); refine hK _ ?_; clear hK K)))
  refine Go.Flo.fw_nil ?_
  intro w2 hww2 hfw2 huw2
  obtain ⟨iend, hiend⟩ := hww2
  have hbw2 := HW.out iend
  rw [← hiend] at hbw2
  clear hiend iend huw2
  have hs1' : w2.ownsRow w1.heap.size 5 1 (.slice y D.length q) D.length (bl D) := ((hfw2 (some 21)).1.2 rfl).1
  have h3 := (hbw2.block g (by omega)).trans H3.out
  have HB2 := Lib.hid (HB1.out.trans (hbw2.mono hs1))
  have hz2 : g < w2.heap.size := Nat.lt_of_lt_of_le hz1 hbw2.size
  clear hfw2 HJ HW hne k0 k4 hbw2 H3 HB1 HR1
  clear W I
  rw [HDL.out] at hs1'
  have c0 := cell_of_row w2 g 0 _ _ _ h3
  have f0 := frozen_of_row w2 g 0 _ _ h3
  have ha : (w2.setCell ⟨g, 0, none⟩ (.int .u8 (A : Nat))).heap[g]? = some (.cells #[.int .u8 (A : Nat), .int .u8 (s : Nat), .int .u8 (u : Nat), .int .u16 (c : Nat), .slice x len cap] 71 (0, 0)) := by
    rw [setCell_eq_setRow w2 g 0 _ _ _ _ h3]
    exact setRow_heap _ _ _ _ _ _ h3
  have c4 := cell_of_row _ g 4 _ _ _ ha
  have f4 := frozen_of_row _ g 4 _ _ ha
  have hb : ((w2.setCell ⟨g, 0, none⟩ (.int .u8 (A : Nat))).setCell ⟨g, 4, none⟩ (.slice y m q)).heap[g]? = some (.cells #[.int .u8 (A : Nat), .int .u8 (s : Nat), .int .u8 (u : Nat), .int .u16 (c : Nat), .slice y m q] 71 (0, 0)) := by
    rw [setCell_eq_setRow _ g 4 _ _ _ _ ha]
    exact setRow_heap _ _ _ _ _ _ ha
  have hgw : g < w1.heap.size := by omega
  have hy3 := own_setB (b := g) (i := 4) (x := .slice y m q) (own_setB (b := g) (i := 0) (x := .int .u8 (A : Nat)) hs1' hgw) hgw
  have hB3 := (HB2.out.setCell (p := ⟨g, 0, none⟩) hgB (.int .u8 (A : Nat))).setCell (p := ⟨g, 4, none⟩) hgB (.slice y m q)
  have hz3 : ((w2.setCell ⟨g, 0, none⟩ (.int .u8 (A : Nat))).setCell ⟨g, 4, none⟩ (.slice y m q)).heap.size = w2.heap.size := by simp
  have E0 := Lib.hid hb
  have HY := Lib.hid (rd_of_own (f := bv D) hy3 (fun i hi => bl_at D (by rw [HDL.out]; exact hi)))
  have HB3 := Lib.hid hB3
  clear hy3 hB3 hs1' h3 ha hb HB2
  refine Go.Flo.tw_step ?_ (fun K hK => ?_)
  · (first | exact Go.Mix.wanted_none rfl | exact Go.Mix.wanted_tt rfl rfl rfl | exact Go.Mix.wanted_ff rfl rfl rfl)
  (first | go_big_op | go_simp)
  refine hK _ _ ?_
  clear hK K
  refine Go.Flo.tw_step ?_ (fun K hK => ?_)
  · (first | exact Go.Mix.wanted_none rfl | exact Go.Mix.wanted_tt rfl rfl rfl | exact Go.Mix.wanted_ff rfl rfl rfl)
  (first | go_big_op | go_simp)
  refine hK _ _ ?_
  clear hK K
  refine Go.Flo.tw_step ?_ (fun K hK => ?_)
  · (first | exact Go.Mix.wanted_none rfl | exact Go.Mix.wanted_tt rfl rfl rfl | exact Go.Mix.wanted_ff rfl rfl rfl)
  (first | go_big_op | go_simp)
  refine hK _ _ ?_
  clear hK K
  refine Go.Flo.tw_nil ?_
  clear c0 f0 c4 f4
  obtain ⟨w3, hw3⟩ : ∃ w3, w3 = (w2.setCell ⟨g, 0, none⟩ (.int .u8 (A : Nat))).setCell ⟨g, 4, none⟩ (.slice y m q) := ⟨_, rfl⟩
  rw [← hw3] at E0 HY HB3 hz3 ⊢
  have hz3g : g < w3.heap.size := by omega
  have hs3 : w.heap.size ≤ w3.heap.size := HB3.out.size
  clear hw3 hz3 hz2
  have ka0 := cell_of_row w3 g 0 _ _ _ E0.out
  have ka1 := cell_of_row w3 g 1 _ _ _ E0.out
  have ka2 := cell_of_row w3 g 2 _ _ _ E0.out
  have ka3 := cell_of_row w3 g 3 _ _ _ E0.out
  have ka4 := cell_of_row w3 g 4 _ _ _ E0.out
  go_wp2_with fail
  go_at_call 37
  refine (Send_any ap' 0 A s u c y m q _ D _ (by omega) (by omega) (by omega) hs hu hc HDL.out (Nat.le_refl _) HY.out hDb).mono ?_
  rintro e w4 ⟨hb4, ⟨hne, _⟩ | ⟨_, v, rfl, hown⟩⟩
  · exact absurd (sd_zeroV hA16 hap2 (by omega) (by omega)) hne
  obtain ⟨K, hK⟩ : ∃ K, K = mkPkt 1 ap' 0 (cmB A s u c D) := ⟨_, rfl⟩
  have hKl : K.length = m + 13 := by rw [hK, mkPkt_len, cmB_len, HDL.out]
  have hKb : bytes K := by rw [hK]; exact mkPkt_bytes (by decide) hap2 (by omega) (by rw [cmB_len, HDL.out]; omega) (cmB_bytes hA16 hs hu hDb)
  have hKv : ∀ T, vdC T K ap' = jdT T s u m := fun T => by rw [hK, vdC_mk T hap2 (by omega) hA16 (by rw [HDL.out]; omega), HDL.out]
  rw [← hK] at hown
  obtain ⟨M, hM⟩ : ∃ M, M = m + 13 := ⟨_, rfl⟩
  rw [← hM] at hown hKl
  obtain ⟨ga, qa, rfl⟩ := own_form hown
  have hrd := rd_of_own (f := bv K) hown (fun i hi => bl_at K (by rw [hKl]; exact hi))
  have hg4 := (hb4.block g hz3g).trans E0.out
  have hB4 := HB3.out.trans (hb4.mono hs3)
  have HKL := Lib.hid hKl
  have HKV := Lib.hid hKv
  have ST4 := Lib.hid (NSt.mk hg4 hrd hB4)
  clear ka0 ka1 ka2 ka3 ka4 hK hKl hKv hown hrd hg4 hB4 hb4 HY E0 HB3 hM HM HD hz3g hs3 hgw hz1 hs1 HL hgB
  go_wp2_with fail
  refine (vJudge ga M qa w4.heap.size ap' (.map none) (fun _ _ => none) K w4 HKL.out (Nat.le_refl _) ST4.out.rd hKb (jdOk_nil w4)).mono ?_
  rintro e w5 ⟨hbj, aj, sj, uj, cj, xj, mj, cpj, rfl, hok, hno⟩
  rw [HKV.out, none_judge]
  clear hok hno
  go_upto_region 6 with fail
  have hbb := hbj.alloc hbj.size (.cells #[.int .u8 4, .int .u32 (idN K : Nat), .int .u8 (aj : Nat), .int .u8 (sj : Nat), .int .u8 (uj : Nat), .int .u16 (cj : Nat), .slice xj mj cpj] 81)
  have hhb := heap_alloc_new w5 (.cells #[.int .u8 4, .int .u32 (idN K : Nat), .int .u8 (aj : Nat), .int .u8 (sj : Nat), .int .u8 (uj : Nat), .int .u16 (cj : Nat), .slice xj mj cpj] 81)
  obtain ⟨g9, hgb⟩ : ∃ gb, gb = w5.heap.size := ⟨_, rfl⟩
  obtain ⟨w6, hwb⟩ : ∃ wb, wb = w5.alloc (.cells #[.int .u8 4, .int .u32 (idN K : Nat), .int .u8 (aj : Nat), .int .u8 (sj : Nat), .int .u8 (uj : Nat), .int .u16 (cj : Nat), .slice xj mj cpj] 81) := ⟨_, rfl⟩
  rw [← hwb] at hbb hhb ⊢
  rw [← hgb] at hhb ⊢
  have Xg9 := Lib.hid (NBx.mk (box_lt hhb) (cell_of_row w6 _ 0 _ _ _ hhb))
  clear hwb hgb hhb hbj
  have ST6 := Lib.hid (ST4.out.below hbb)
  clear ST4 hbb
  go_wp2_with fail
  have hal := (Below.refl w6.heap.size w6).alloc (Nat.le_refl _) (.map #[] 0)
  refine (vJudge ga M qa (w6.alloc (.map #[] 0)).heap.size ap' (.map (some w6.heap.size)) (fun _ _ => none) K _ HKL.out (Nat.le_refl _) (ST6.out.below hal).rd hKb (jdOk_tab (tab_made w6))).mono ?_
  rintro e w7 ⟨hbj, aj, sj, uj, cj, xj, mj, cpj, rfl, hok, hno⟩
  rw [HKV.out, none_judge]
  clear hok hno
  go_upto_region 7 with fail
  have hbb := hbj.alloc hbj.size (.cells #[.int .u8 4, .int .u32 (idN K : Nat), .int .u8 (aj : Nat), .int .u8 (sj : Nat), .int .u8 (uj : Nat), .int .u16 (cj : Nat), .slice xj mj cpj] 81)
  have hhb := heap_alloc_new w7 (.cells #[.int .u8 4, .int .u32 (idN K : Nat), .int .u8 (aj : Nat), .int .u8 (sj : Nat), .int .u8 (uj : Nat), .int .u16 (cj : Nat), .slice xj mj cpj] 81)
  obtain ⟨g10, hgb⟩ : ∃ gb, gb = w7.heap.size := ⟨_, rfl⟩
  obtain ⟨w8, hwb⟩ : ∃ wb, wb = w7.alloc (.cells #[.int .u8 4, .int .u32 (idN K : Nat), .int .u8 (aj : Nat), .int .u8 (sj : Nat), .int .u8 (uj : Nat), .int .u16 (cj : Nat), .slice xj mj cpj] 81) := ⟨_, rfl⟩
  rw [← hwb] at hbb hhb ⊢
  rw [← hgb] at hhb ⊢
  have Xg10 := Lib.hid (NBx.mk (box_lt hhb) (cell_of_row w8 _ 0 _ _ _ hhb))
  clear hwb hgb hhb hbj
  have hbb := hal.trans (hbb.mono hal.size)
  have ST8 := Lib.hid (ST6.out.below hbb)
  have Xg9 := Lib.hid (Xg9.out.below hbb)
  clear ST6 hbb hal
  go_upto_region 8 with fail
  have ht0 := tab_made w8
  rw [← tk_zero s] at ht0
  have hal := (Below.refl w8.heap.size w8).alloc (Nat.le_refl _) (.map #[] 0)
  obtain ⟨b, hbq⟩ : ∃ b, b = w8.heap.size := ⟨_, rfl⟩
  obtain ⟨w9, hw9⟩ : ∃ w9, w9 = w8.alloc (.map #[] 0) := ⟨_, rfl⟩
  rw [← hw9] at ht0 hal ⊢
  rw [← hbq] at ht0 ⊢
  have HT0 := Lib.hid ht0
  have HA0 := Lib.hid hal
  have HBQ := Lib.hid hbq
  clear hw9 hbq ht0 hal
  go_wp2_with fail
  go_loopw [12] (fun v wr => ∃ (k : Nat) (D : DataW Nat), v = .int .i64 (k : Nat) ∧ k ≤ 256 ∧ Tab wr b k (tk s k) D ∧ Below w8.heap.size w8 wr) (fun v _ => 256 - (intOf v).toNat)
  case atStart => exact ⟨0, _, rfl, by omega, HT0.out, HA0.out⟩
  case round =>
    clear HT0 HA0
    obtain ⟨k, Dk, rfl, hk, ht, hB⟩ := hrel
    have HT := Lib.hid ht
    have HB := Lib.hid hB
    have STr := Lib.hid (ST8.out.below hB)
    clear ht hB
    by_cases hk2 : k < 256
    · have k1 := cell_of_row wr g 1 _ _ _ STr.out.hp
      simp at k1
      have hkey := kl_of hs hk2
      have hkm : k < maxLen := by unfold maxLen; omega
      have hw8 : IntKind.wrap .u8 (k : Int) = (k : Int) := by rw [IntKind.wrap_u8]; omega
      go_wp2_with (at_mapUpdate; refine wpList_mapUpdate_own _ rfl _ _ _ 77 rfl _ _ kind_keyed Try.underlying77 formR b k Dk rfl HT.out.own hkm _ _ _ rfl rfl hkey (formD 0 200) [] (formR_mk 0 200) ?_; intro wu hown hgr)
      have ht2 := HT.out.put hs hk2 (0, 200) hown
      rw [tk_succ] at ht2
      have hB2 := HB.out.grown hgr HB.out.size (fun j hj => by cases hj; have := HBQ.out; omega)
      exact ⟨⟨k + 1, _, by simp, by omega, ht2, hB2⟩, by simp [intOf]; omega⟩
    · obtain rfl : k = 256 := by omega
      have hkn := fun (w' : World) (hb' : Below wr.heap.size wr w') => Known_any sv b 256 (tk s 256) Dk w' (HT.out.below hb') (decide (sv = s)) (tk_knows s sv) hsv
      have HKN := Lib.hid hkn
      have Xg9 := Lib.hid (Xg9.out.below HB.out)
      have Xg10 := Lib.hid (Xg10.out.below HB.out)
      clear hkn ST8
      go_wp2_with fail
      refine (vJudge ga M qa wr.heap.size ap' (.map (some b)) (tk s 256) K wr HKL.out (Nat.le_refl _) STr.out.rd hKb (jdOk_tab HT.out)).mono ?_
      rintro e w10 ⟨hbj, aj, sj, uj, cj, xj, mj, cpj, rfl, hok, hno⟩
      rw [HKV.out, tk_judge hu (show m ≤ 200 by omega)]
      clear hok hno
      go_upto_region 13 with fail
      have hbb := hbj.alloc hbj.size (.cells #[.int .u8 0, .int .u32 (idN K : Nat), .int .u8 (aj : Nat), .int .u8 (sj : Nat), .int .u8 (uj : Nat), .int .u16 (cj : Nat), .slice xj mj cpj] 81)
      have hhb := heap_alloc_new w10 (.cells #[.int .u8 0, .int .u32 (idN K : Nat), .int .u8 (aj : Nat), .int .u8 (sj : Nat), .int .u8 (uj : Nat), .int .u16 (cj : Nat), .slice xj mj cpj] 81)
      obtain ⟨g13, hgb⟩ : ∃ gb, gb = w10.heap.size := ⟨_, rfl⟩
      obtain ⟨w11, hwb⟩ : ∃ wb, wb = w10.alloc (.cells #[.int .u8 0, .int .u32 (idN K : Nat), .int .u8 (aj : Nat), .int .u8 (sj : Nat), .int .u8 (uj : Nat), .int .u16 (cj : Nat), .slice xj mj cpj] 81) := ⟨_, rfl⟩
      rw [← hwb] at hbb hhb ⊢
      rw [← hgb] at hhb ⊢
      have Xg13 := Lib.hid (NBx.mk (box_lt hhb) (cell_of_row w11 _ 0 _ _ _ hhb))
      clear hwb hgb hhb hbj
      have ST := Lib.hid (STr.out.below hbb)
      have Xg9 := Lib.hid (Xg9.out.below hbb)
      have Xg10 := Lib.hid (Xg10.out.below hbb)
      have HKN := Lib.hid (fun (w' : World) (hb' : Below w11.heap.size w11 w') => HKN.out w' (hbb.trans (hb'.mono hbb.size)))
      clear STr hbb HT HB
      obtain ⟨t, ht⟩ : ∃ t, t = decide (sv = s) := ⟨_, rfl⟩
      have hti : ((sv : Int) == (s : Int)) = t := by rw [ht]; by_cases e : sv = s <;> simp [e]; omega
      rw [← ht] at HKN
      clear ht
      obtain ⟨I, W, hne, hWI, hIW⟩ := Go.Mix.family (fun v => Below w11.heap.size w11 v) (Below.refl _ _)
      have HJ := Lib.hid hIW
      have HW := Lib.hid hWI
      clear hWI hIW
      refine Go.Flo.wp_region (fun w' => ∃ i, w' = W i) 29 [Go.Flo.Spec.is (.bool false), Go.Flo.Spec.is (.bool t)] (by kernel_rfl) (by kernel_rfl) (by decide) (by rintro _ w' ⟨i, rfl⟩ hb; exact HJ.out _ ((HW.out i).trans (hb.mono (HW.out i).size))) (HJ.out _ (Below.refl _ _).drew) ?_
      simp only [Go.Flo.pair, Go.Mix.calm, List.take, List.drop, if_true, Bool.false_eq_true, if_false, Nat.reduceAdd, Nat.reduceSub]
      have k9 : ∀ i, (W i).cell? ⟨g9, 0, none⟩ = some (.int .u8 4) := fun i => (Xg9.out.below (HW.out i)).c
      have k10 : ∀ i, (W i).cell? ⟨g10, 0, none⟩ = some (.int .u8 4) := fun i => (Xg10.out.below (HW.out i)).c
      have k13 : ∀ i, (W i).cell? ⟨g13, 0, none⟩ = some (.int .u8 0) := fun i => (Xg13.out.below (HW.out i)).c
      have k1 : ∀ i, (W i).cell? ⟨g, 1, none⟩ = some (.int .u8 (s : Nat)) := fun i => cell_of_row _ g 1 _ _ _ (ST.out.below (HW.out i)).hp
      (repeat (first | (refine Go.Flo.fw_calm rfl ?_ (fun K hK => ?_); (first | exact Go.Mix.wanted_none rfl | exact Go.Mix.wanted_tt rfl rfl rfl | exact Go.Mix.wanted_ff rfl rfl rfl); go_big_quiet_op; refine hK _ ?_; clear hK K) | (refine Go.Flo.fw_skip ?_ (fun K hK => ?_); (first | exact Go.Mix.wanted_tf rfl rfl rfl | exact Go.Mix.wanted_ft rfl rfl rfl); go_simp; refine hK _ ?_; clear hK K) | (refine Go.Flo.fw_any rfl ?_ (fun K hK => ?_); (first | exact Go.Mix.wanted_none rfl | exact Go.Mix.wanted_tt rfl rfl rfl | exact Go.Mix.wanted_ff rfl rfl rfl); go_simp; (try (go_ints; try go_simp)); refine hK _ ?_; clear hK K)))
      refine Go.Flo.fw_loud rfl ?_ rfl (by simp) (fun wv hwv hav K hK => ?_) (fun v hv K hK => ?_)
      · (first | exact Go.Mix.wanted_none rfl | exact Go.Mix.wanted_tt rfl rfl rfl | exact Go.Mix.wanted_ff rfl rfl rfl)
      · obtain ⟨iv, rfl⟩ := hwv
        have hbv := HW.out iv
        (first | go_big_op | go_simp)
        go_at_call 40
        refine (vKnown_nil sv _).mono ?_
        rintro e w' ⟨rfl, hbw⟩
        exact hK _ _ (Go.Flo.owes_is _ rfl hbw)
      obtain rfl := hv.is
      go_simp
      refine hK _ ?_
      clear hK K hv
      (repeat (first | (refine Go.Flo.fw_calm rfl ?_ (fun K hK => ?_); (first | exact Go.Mix.wanted_none rfl | exact Go.Mix.wanted_tt rfl rfl rfl | exact Go.Mix.wanted_ff rfl rfl rfl); go_big_quiet_op; refine hK _ ?_; clear hK K) | (refine Go.Flo.fw_skip ?_ (fun K hK => ?_); (first | exact Go.Mix.wanted_tf rfl rfl rfl | exact Go.Mix.wanted_ft rfl rfl rfl); go_simp; refine hK _ ?_; clear hK K) | (refine Go.Flo.fw_any rfl ?_ (fun K hK => ?_); (first | exact Go.Mix.wanted_none rfl | exact Go.Mix.wanted_tt rfl rfl rfl | exact Go.Mix.wanted_ff rfl rfl rfl); go_simp; (try (go_ints; try go_simp)); refine hK _ ?_; clear hK K)))
      refine Go.Flo.fw_loud rfl ?_ rfl (by simp) (fun wv hwv hav K hK => ?_) (fun v hv K hK => ?_)
      · (first | exact Go.Mix.wanted_none rfl | exact Go.Mix.wanted_tt rfl rfl rfl | exact Go.Mix.wanted_ff rfl rfl rfl)
      · obtain ⟨iv, rfl⟩ := hwv
        have hbv := HW.out iv
        (first | go_big_op | go_simp)
        go_at_call 40
        refine (HKN.out _ hbv).mono ?_
        rintro e w' ⟨rfl, hbw⟩
        exact hK _ _ (Go.Flo.owes_is _ rfl hbw)
      obtain rfl := hv.is
      go_simp
      refine hK _ ?_
      clear hK K hv
      (repeat (first | (refine Go.Flo.fw_calm rfl ?_ (fun K hK => ?_); (first | exact Go.Mix.wanted_none rfl | exact Go.Mix.wanted_tt rfl rfl rfl | exact Go.Mix.wanted_ff rfl rfl rfl); go_big_quiet_op; refine hK _ ?_; clear hK K) | (refine Go.Flo.fw_skip ?_ (fun K hK => ?_); (first | exact Go.Mix.wanted_tf rfl rfl rfl | exact Go.Mix.wanted_ft rfl rfl rfl); go_simp; refine hK _ ?_; clear hK K) | (refine Go.Flo.fw_any rfl ?_ (fun K hK => ?_); (first | exact Go.Mix.wanted_none rfl | exact Go.Mix.wanted_tt rfl rfl rfl | exact Go.Mix.wanted_ff rfl rfl rfl); go_simp; (try (go_ints; try go_simp)); refine hK _ ?_; clear hK K)))
      refine Go.Flo.fw_nil ?_
      intro wz hwwz hfwz huwz
      refine Go.Flo.tw_nil ?_
      obtain ⟨iend, hiend⟩ := hwwz
      have hbwz := HW.out iend
      rw [← hiend] at hbwz
      clear hiend iend huwz
      have HBZ := Lib.hid (ST.out.bel.trans (hbwz.mono ST.out.bel.size))
      clear hfwz HJ HW hne k9 k10 k13 k1 hbwz
      clear W I
      go_wp2
      go_ret
      exact ⟨by simp, HBZ.out⟩
end Go.Proofs.Ytkgeeohgfbacaaa
