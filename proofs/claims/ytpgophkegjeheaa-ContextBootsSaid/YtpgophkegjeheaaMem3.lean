/- Layer 7: the rows that are laid: set, Finish. -/
import Derived.Test.YtpgophkegjeheaaMem2
namespace Go.Proofs.Ytpgophkegjeheaa
open Go.RowKit Go.Own
set_option linter.unusedVariables false
set_option linter.unusedSimpArgs false
variable {w : World} {B g : Nat} {v : Nat → Value} {ls : Nat → List Nat}

@[go_sem] theorem gidx0 (w : World) (a b c : Option Addr) (l m n d e f : Nat) : (Instr.index 129 (.agg #[.slice a l d, .slice b m e, .slice c n f]) (.int .i64 0)).run Try.prog w = .ok (.slice a l d) w := by kernel_rfl
@[go_sem] theorem gidx1 (w : World) (a b c : Option Addr) (l m n d e f : Nat) : (Instr.index 129 (.agg #[.slice a l d, .slice b m e, .slice c n f]) (.int .i64 1)).run Try.prog w = .ok (.slice b m e) w := by kernel_rfl
@[go_sem] theorem gidx2 (w : World) (a b c : Option Addr) (l m n d e f : Nat) : (Instr.index 129 (.agg #[.slice a l d, .slice b m e, .slice c n f]) (.int .i64 2)).run Try.prog w = .ok (.slice c n f) w := by kernel_rfl
/-- A fresh row is laid into a field: both facts. -/
theorem put_fresh {w0 w w1 : World} {v0 : Nat → Value} {i : Nat} (m : MemS w B g v ls) (s : MStep g v0 v w0 w) (hb : Below w.heap.size w w1) (hi : i < 4) {x : Value} {l : List Nat} (hx : w1.ownsRow w.heap.size 5 1 x l.length (bl l)) (hbl : bytes l) (hl : l.length ≤ 1000000) :
    MemS (w1.setCell ⟨g, i, none⟩ x) B g (upd v i x) (upd ls i l) ∧ MStep g v0 (upd v i x) w0 (w1.setCell ⟨g, i, none⟩ x) :=
  ⟨(m.below hb).put hi (World.ownsRow.mono hx (Nat.le_trans m.base (Nat.le_of_lt m.lt))) hbl hl (fun j hj _ => m.fresh hx j hj),
   (s.then_below hb).put (fun b e => Nat.le_trans s.size ((hx.lt b e).1))⟩
theorem own_past {w w1 : World} {B B' g i n : Nat} {v : Nat → Value} {ls : Nat → List Nat} {x y : Value} {xs : List Value} (m : MemS w B g v ls) (hb : Below w.heap.size w w1) (ho : w.ownsRow B' 5 1 y n xs) : (w1.setCell ⟨g, i, none⟩ x).ownsRow B' 5 1 y n xs :=
  (own_keep ho hb).kept (grown_set w1 ⟨g, i, none⟩ x) (.inr (fun e => box_apart (m.below hb).head (own_keep ho hb) (by decide) e.symm))
theorem upd3 (v : Nat → Value) (x y z : Value) : upd (upd (upd v 0 x) 1 y) 2 z 3 = v 3 := rfl
theorem upd3_sel (ls : Nat → List Nat) (x y z : List Nat) : ∀ i, i < 4 → sel4 x y z (ls 3) i = upd (upd (upd ls 0 x) 1 y) 2 z i := by
  intro i hi
  have : i = 0 ∨ i = 1 ∨ i = 2 ∨ i = 3 := by omega
  rcases this with rfl | rfl | rfl | rfl <;> rfl
set_option maxRecDepth 100000 in
set_option maxHeartbeats 2000000 in
theorem mset (B' : Nat) (a : Option Addr) (len cap : Nat) (l : List Nat) (h : MemS w B g v ls) (hl : l.length = len) (ho : w.ownsRow B' 5 1 (.slice a len cap) len (bl l)) (hb : bytes l) (hm : len ≤ 1000000) :
    Calls Try.prog 69 #[.pointer (some ⟨g, 0, none⟩), .slice a len cap] w fun e w' => (∃ u, e = .returned u) ∧ ∃ v', v' 3 = v 3 ∧ MemS w' B g v' (sel4 l l l (ls 3)) ∧ MStep g v v' w w' := by
  have S := Lib.hid (MStep.refl g v w)
  have H := Lib.hid h
  have HO := Lib.hid ho
  have HL := Lib.hid hl
  have HB := Lib.hid hb
  clear h ho hl hb
  go_enter Try.func69, Try.ntmps69
  go_wp2
  refine wp_loop_rounds 4 ?_
  rw [rounds_succ]
  go_wp2
  have hR := rd_of_own (f := bv l) HO.out (fun i hi => bl_at l (by rw [HL.out]; exact hi))
  have HR := Lib.hid hR
  clear hR
  obtain ⟨I, W, hne, hWI, hIW⟩ := Go.Mix.family (fun v => Below w.heap.size w v) (Below.refl _ _)
  have HJ := Lib.hid hIW
  have HW := Lib.hid hWI
  clear hWI hIW
  refine Go.Flo.wp_region (fun w' => ∃ i, w' = W i) 7 [SpO w.heap.size l] (by kernel_rfl) (by kernel_rfl) (by decide) (by rintro _ w' ⟨i, rfl⟩ hb; exact HJ.out _ ((HW.out i).trans (hb.mono (HW.out i).size))) (HJ.out _ (Below.refl _ _).drew) ?_
  simp only [Go.Flo.pair, Go.Mix.calm, List.take, List.drop, if_true, Bool.false_eq_true, if_false, Nat.reduceAdd, Nat.reduceSub]
  (repeat (first | (refine Go.Flo.fw_calm rfl ?_ (fun K hK => ?_); (first | exact Go.Mix.wanted_none rfl | exact Go.Mix.wanted_tt rfl rfl rfl | exact Go.Mix.wanted_ff rfl rfl rfl); go_big_quiet_op; refine hK _ ?_; clear hK K) | (refine Go.Flo.fw_skip ?_ (fun K hK => ?_); (first | exact Go.Mix.wanted_tf rfl rfl rfl | exact Go.Mix.wanted_ft rfl rfl rfl); go_simp; refine hK _ ?_; clear hK K) | (refine Go.Flo.fw_any rfl ?_ (fun K hK => ?_); (first | exact Go.Mix.wanted_none rfl | exact Go.Mix.wanted_tt rfl rfl rfl | exact Go.Mix.wanted_ff rfl rfl rfl); go_simp; (try (go_ints; try go_simp)); refine hK _ ?_; clear hK K)))
  refine Go.Flo.fw_loud rfl ?_ rfl (by simp) (fun wv hwv hav K hK => ?_) (fun x hx K hK => ?_)
  · (first | exact Go.Mix.wanted_none rfl | exact Go.Mix.wanted_tt rfl rfl rfl | exact Go.Mix.wanted_ff rfl rfl rfl)
  · obtain ⟨iv, rfl⟩ := hwv
    have hbv := HW.out iv
    (first | go_big_op | go_simp)
    go_at_call 71
    refine (Clone_any a len cap w.heap.size l _ hbv.size HL.out (HR.out.below hbv) (by omega)).mono ?_
    rintro e w' ⟨x, rfl, hown, hbb⟩
    exact hK _ _ (owes_O HL.out rfl hbb hown hbv.size)
  obtain ⟨a9, c9, rfl⟩ := ex_O hx
  go_simp
  refine hK _ ?_
  clear hK K hx
  (repeat (first | (refine Go.Flo.fw_calm rfl ?_ (fun K hK => ?_); (first | exact Go.Mix.wanted_none rfl | exact Go.Mix.wanted_tt rfl rfl rfl | exact Go.Mix.wanted_ff rfl rfl rfl); go_big_quiet_op; refine hK _ ?_; clear hK K) | (refine Go.Flo.fw_skip ?_ (fun K hK => ?_); (first | exact Go.Mix.wanted_tf rfl rfl rfl | exact Go.Mix.wanted_ft rfl rfl rfl); go_simp; refine hK _ ?_; clear hK K) | (refine Go.Flo.fw_any rfl ?_ (fun K hK => ?_); (first | exact Go.Mix.wanted_none rfl | exact Go.Mix.wanted_tt rfl rfl rfl | exact Go.Mix.wanted_ff rfl rfl rfl); go_simp; (try (go_ints; try go_simp)); refine hK _ ?_; clear hK K)))
  refine Go.Flo.fw_nil ?_
  intro w2 hww2 hfw2 huw2
  obtain ⟨iend, hiend⟩ := hww2
  have hbw2 := HW.out iend
  rw [← hiend] at hbw2
  clear hiend iend huw2
  have hown := ((hfw2 (some 11)).1.1.1.2 rfl).1
  have f2 := (H.out.below hbw2).f 0
  have c2 := (H.out.below hbw2).c0
  have P2 := put_fresh (i := 0) H.out S.out hbw2 (by omega) hown HB.out (by rw [HL.out]; omega)
  have O2 := own_past (i := 0) (x := .slice a9 l.length c9) H.out hbw2 HO.out
  have HP2 := Lib.hid P2
  have HO2 := Lib.hid O2
  clear hfw2 HJ HW hne hown hbw2 HR P2 O2
  clear W I
  refine Go.Flo.tw_step ?_ (fun K hK => ?_)
  · (first | exact Go.Mix.wanted_none rfl | exact Go.Mix.wanted_tt rfl rfl rfl | exact Go.Mix.wanted_ff rfl rfl rfl)
  (first | go_big_op | go_simp)
  refine hK _ _ ?_
  clear hK K
  refine Go.Flo.tw_nil ?_
  obtain ⟨wa, hwa⟩ : ∃ w3, w3 = w2.setCell ⟨g, 0, none⟩ (.slice a9 l.length c9) := ⟨_, rfl⟩
  rw [← hwa]
  clear H S HO
  have H := Lib.hid HP2.out.1
  have S := Lib.hid HP2.out.2
  have HO := Lib.hid HO2.out
  clear HP2 HO2
  rw [← hwa] at H S HO
  clear hwa f2 c2
  go_wp2
  rw [rounds_succ]
  go_wp2
  have hR := rd_of_own (f := bv l) HO.out (fun i hi => bl_at l (by rw [HL.out]; exact hi))
  have HR := Lib.hid hR
  clear hR
  obtain ⟨I, W, hne, hWI, hIW⟩ := Go.Mix.family (fun v => Below wa.heap.size wa v) (Below.refl _ _)
  have HJ := Lib.hid hIW
  have HW := Lib.hid hWI
  clear hWI hIW
  refine Go.Flo.wp_region (fun w' => ∃ i, w' = W i) 7 [SpO wa.heap.size l] (by kernel_rfl) (by kernel_rfl) (by decide) (by rintro _ w' ⟨i, rfl⟩ hb; exact HJ.out _ ((HW.out i).trans (hb.mono (HW.out i).size))) (HJ.out _ (Below.refl _ _).drew) ?_
  simp only [Go.Flo.pair, Go.Mix.calm, List.take, List.drop, if_true, Bool.false_eq_true, if_false, Nat.reduceAdd, Nat.reduceSub]
  (repeat (first | (refine Go.Flo.fw_calm rfl ?_ (fun K hK => ?_); (first | exact Go.Mix.wanted_none rfl | exact Go.Mix.wanted_tt rfl rfl rfl | exact Go.Mix.wanted_ff rfl rfl rfl); go_big_quiet_op; refine hK _ ?_; clear hK K) | (refine Go.Flo.fw_skip ?_ (fun K hK => ?_); (first | exact Go.Mix.wanted_tf rfl rfl rfl | exact Go.Mix.wanted_ft rfl rfl rfl); go_simp; refine hK _ ?_; clear hK K) | (refine Go.Flo.fw_any rfl ?_ (fun K hK => ?_); (first | exact Go.Mix.wanted_none rfl | exact Go.Mix.wanted_tt rfl rfl rfl | exact Go.Mix.wanted_ff rfl rfl rfl); go_simp; (try (go_ints; try go_simp)); refine hK _ ?_; clear hK K)))
  refine Go.Flo.fw_loud rfl ?_ rfl (by simp) (fun wv hwv hav K hK => ?_) (fun x hx K hK => ?_)
  · (first | exact Go.Mix.wanted_none rfl | exact Go.Mix.wanted_tt rfl rfl rfl | exact Go.Mix.wanted_ff rfl rfl rfl)
  · obtain ⟨iv, rfl⟩ := hwv
    have hbv := HW.out iv
    (first | go_big_op | go_simp)
    go_at_call 71
    refine (Clone_any a len cap wa.heap.size l _ hbv.size HL.out (HR.out.below hbv) (by omega)).mono ?_
    rintro e w' ⟨x, rfl, hown, hbb⟩
    exact hK _ _ (owes_O HL.out rfl hbb hown hbv.size)
  obtain ⟨a9, c9, rfl⟩ := ex_O hx
  go_simp
  refine hK _ ?_
  clear hK K hx
  (repeat (first | (refine Go.Flo.fw_calm rfl ?_ (fun K hK => ?_); (first | exact Go.Mix.wanted_none rfl | exact Go.Mix.wanted_tt rfl rfl rfl | exact Go.Mix.wanted_ff rfl rfl rfl); go_big_quiet_op; refine hK _ ?_; clear hK K) | (refine Go.Flo.fw_skip ?_ (fun K hK => ?_); (first | exact Go.Mix.wanted_tf rfl rfl rfl | exact Go.Mix.wanted_ft rfl rfl rfl); go_simp; refine hK _ ?_; clear hK K) | (refine Go.Flo.fw_any rfl ?_ (fun K hK => ?_); (first | exact Go.Mix.wanted_none rfl | exact Go.Mix.wanted_tt rfl rfl rfl | exact Go.Mix.wanted_ff rfl rfl rfl); go_simp; (try (go_ints; try go_simp)); refine hK _ ?_; clear hK K)))
  refine Go.Flo.fw_nil ?_
  intro w2 hww2 hfw2 huw2
  obtain ⟨iend, hiend⟩ := hww2
  have hbw2 := HW.out iend
  rw [← hiend] at hbw2
  clear hiend iend huw2
  have hown := ((hfw2 (some 11)).1.1.1.2 rfl).1
  have f2 := (H.out.below hbw2).f 1
  have c2 := (H.out.below hbw2).c1
  have P2 := put_fresh (i := 1) H.out S.out hbw2 (by omega) hown HB.out (by rw [HL.out]; omega)
  have O2 := own_past (i := 1) (x := .slice a9 l.length c9) H.out hbw2 HO.out
  have HP2 := Lib.hid P2
  have HO2 := Lib.hid O2
  clear hfw2 HJ HW hne hown hbw2 HR P2 O2
  clear W I
  refine Go.Flo.tw_step ?_ (fun K hK => ?_)
  · (first | exact Go.Mix.wanted_none rfl | exact Go.Mix.wanted_tt rfl rfl rfl | exact Go.Mix.wanted_ff rfl rfl rfl)
  (first | go_big_op | go_simp)
  refine hK _ _ ?_
  clear hK K
  refine Go.Flo.tw_nil ?_
  obtain ⟨wb, hwb⟩ : ∃ w3, w3 = w2.setCell ⟨g, 1, none⟩ (.slice a9 l.length c9) := ⟨_, rfl⟩
  rw [← hwb]
  clear H S HO
  have H := Lib.hid HP2.out.1
  have S := Lib.hid HP2.out.2
  have HO := Lib.hid HO2.out
  clear HP2 HO2
  rw [← hwb] at H S HO
  clear hwb f2 c2
  go_wp2
  rw [rounds_succ]
  go_wp2
  have hR := rd_of_own (f := bv l) HO.out (fun i hi => bl_at l (by rw [HL.out]; exact hi))
  have HR := Lib.hid hR
  clear hR
  obtain ⟨I, W, hne, hWI, hIW⟩ := Go.Mix.family (fun v => Below wb.heap.size wb v) (Below.refl _ _)
  have HJ := Lib.hid hIW
  have HW := Lib.hid hWI
  clear hWI hIW
  refine Go.Flo.wp_region (fun w' => ∃ i, w' = W i) 7 [SpO wb.heap.size l] (by kernel_rfl) (by kernel_rfl) (by decide) (by rintro _ w' ⟨i, rfl⟩ hb; exact HJ.out _ ((HW.out i).trans (hb.mono (HW.out i).size))) (HJ.out _ (Below.refl _ _).drew) ?_
  simp only [Go.Flo.pair, Go.Mix.calm, List.take, List.drop, if_true, Bool.false_eq_true, if_false, Nat.reduceAdd, Nat.reduceSub]
  (repeat (first | (refine Go.Flo.fw_calm rfl ?_ (fun K hK => ?_); (first | exact Go.Mix.wanted_none rfl | exact Go.Mix.wanted_tt rfl rfl rfl | exact Go.Mix.wanted_ff rfl rfl rfl); go_big_quiet_op; refine hK _ ?_; clear hK K) | (refine Go.Flo.fw_skip ?_ (fun K hK => ?_); (first | exact Go.Mix.wanted_tf rfl rfl rfl | exact Go.Mix.wanted_ft rfl rfl rfl); go_simp; refine hK _ ?_; clear hK K) | (refine Go.Flo.fw_any rfl ?_ (fun K hK => ?_); (first | exact Go.Mix.wanted_none rfl | exact Go.Mix.wanted_tt rfl rfl rfl | exact Go.Mix.wanted_ff rfl rfl rfl); go_simp; (try (go_ints; try go_simp)); refine hK _ ?_; clear hK K)))
  refine Go.Flo.fw_loud rfl ?_ rfl (by simp) (fun wv hwv hav K hK => ?_) (fun x hx K hK => ?_)
  · (first | exact Go.Mix.wanted_none rfl | exact Go.Mix.wanted_tt rfl rfl rfl | exact Go.Mix.wanted_ff rfl rfl rfl)
  · obtain ⟨iv, rfl⟩ := hwv
    have hbv := HW.out iv
    (first | go_big_op | go_simp)
    go_at_call 71
    refine (Clone_any a len cap wb.heap.size l _ hbv.size HL.out (HR.out.below hbv) (by omega)).mono ?_
    rintro e w' ⟨x, rfl, hown, hbb⟩
    exact hK _ _ (owes_O HL.out rfl hbb hown hbv.size)
  obtain ⟨a9, c9, rfl⟩ := ex_O hx
  go_simp
  refine hK _ ?_
  clear hK K hx
  (repeat (first | (refine Go.Flo.fw_calm rfl ?_ (fun K hK => ?_); (first | exact Go.Mix.wanted_none rfl | exact Go.Mix.wanted_tt rfl rfl rfl | exact Go.Mix.wanted_ff rfl rfl rfl); go_big_quiet_op; refine hK _ ?_; clear hK K) | (refine Go.Flo.fw_skip ?_ (fun K hK => ?_); (first | exact Go.Mix.wanted_tf rfl rfl rfl | exact Go.Mix.wanted_ft rfl rfl rfl); go_simp; refine hK _ ?_; clear hK K) | (refine Go.Flo.fw_any rfl ?_ (fun K hK => ?_); (first | exact Go.Mix.wanted_none rfl | exact Go.Mix.wanted_tt rfl rfl rfl | exact Go.Mix.wanted_ff rfl rfl rfl); go_simp; (try (go_ints; try go_simp)); refine hK _ ?_; clear hK K)))
  refine Go.Flo.fw_nil ?_
  intro w2 hww2 hfw2 huw2
  obtain ⟨iend, hiend⟩ := hww2
  have hbw2 := HW.out iend
  rw [← hiend] at hbw2
  clear hiend iend huw2
  have hown := ((hfw2 (some 11)).1.1.1.2 rfl).1
  have f2 := (H.out.below hbw2).f 2
  have c2 := (H.out.below hbw2).c2
  have P2 := put_fresh (i := 2) H.out S.out hbw2 (by omega) hown HB.out (by rw [HL.out]; omega)
  have O2 := own_past (i := 2) (x := .slice a9 l.length c9) H.out hbw2 HO.out
  have HP2 := Lib.hid P2
  have HO2 := Lib.hid O2
  clear hfw2 HJ HW hne hown hbw2 HR P2 O2
  clear W I
  refine Go.Flo.tw_step ?_ (fun K hK => ?_)
  · (first | exact Go.Mix.wanted_none rfl | exact Go.Mix.wanted_tt rfl rfl rfl | exact Go.Mix.wanted_ff rfl rfl rfl)
  (first | go_big_op | go_simp)
  refine hK _ _ ?_
  clear hK K
  refine Go.Flo.tw_nil ?_
  obtain ⟨wc, hwc⟩ : ∃ w3, w3 = w2.setCell ⟨g, 2, none⟩ (.slice a9 l.length c9) := ⟨_, rfl⟩
  rw [← hwc]
  clear H S HO
  have H := Lib.hid HP2.out.1
  have S := Lib.hid HP2.out.2
  have HO := Lib.hid HO2.out
  clear HP2 HO2
  rw [← hwc] at H S HO
  clear hwc f2 c2
  go_wp2
  rw [rounds_succ]
  go_wp2
  go_end0
  exact ⟨⟨_, rfl⟩, _, upd3 _ _ _ _, H.out.congr (upd3_sel _ _ _ _), S.out⟩
end Go.Proofs.Ytpgophkegjeheaa
