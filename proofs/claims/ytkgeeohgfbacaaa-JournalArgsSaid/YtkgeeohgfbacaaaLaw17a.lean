/- Layer 17: rooms that there can't be; a nil one. -/
import Derived.Test.YtkgeeohgfbacaaaLaw17
import Derived.Test.YtkgeeohgfbacaaaJoE
import Derived.Test.YtkgeeohgfbacaaaFrame
import Derived.Deep.CutBlock
import Derived.Deep.DeepCutAuto
import Derived.BigQuiet
namespace Go.Proofs.Ytkgeeohgfbacaaa.Je
open Go.RowKit Go.Own Go.Shelf
set_option linter.unusedVariables false
set_option linter.unusedSimpArgs false
/-- A slice so long. -/
def SpLen (m : Nat) : Go.Flo.Spec := ⟨fun v _ => ∃ a c, v = .slice a m c, fun v w w' hb h => h⟩
theorem owes_len {o : Oper} {m : Nat} {w w' : World} {a : Option Addr} {c : Nat} (hm : Go.Flo.makes o = false) (hb : Below w.heap.size w w') : Go.Flo.owes o (SpLen m) w (.slice a m c) w' :=
  ⟨⟨a, c, rfl⟩, hb, fun g hg => by simp [Go.Flo.ownOf, hm] at hg⟩
theorem ex_len {C : World → Prop} {o : Oper} {m : Nat} {v : Value} {F : Go.Flo.Facts} {G : Go.Flo.Used} (h : Go.Flo.Ex C o (SpLen m) F G v) : ∃ a c, v = .slice a m c := by
  obtain ⟨w, _, _, ⟨a, c, h1⟩, _⟩ := h
  exact ⟨a, c, h1⟩
end Go.Proofs.Ytkgeeohgfbacaaa.Je
namespace Go.Proofs.Ytkgeeohgfbacaaa
open Go.RowKit Go.Own Go.Shelf Go.Proofs.Ytkgeeohgfbacaaa.Je
set_option linter.unusedVariables false
set_option linter.unusedSimpArgs false
set_option maxRecDepth 100000 in
set_option maxHeartbeats 4000000 in
theorem walk_JournalArgs (a0 : Int) (n1_0 n1_1 n1_2 n1_3 n1_4 : Int) (w : World) (w0 : (Lit.int .i64 a0).wf = true) (w1_0 : (Lit.int .u32 n1_0).wf = true) (w1_1 : (Lit.int .u32 n1_1).wf = true) (w1_2 : (Lit.int .u8 n1_2).wf = true) (w1_3 : (Lit.int .u8 n1_3).wf = true) (w1_4 : (Lit.int .u32 n1_4).wf = true) :
    Calls Try.prog 11 #[.int .i64 a0, .agg #[.int .u32 n1_0, .int .u32 n1_1, .int .u8 n1_2, .int .u8 n1_3, .int .u32 n1_4]] w fun e w' => e = .returned (.bool true) ∧ Below w.heap.size w w' := by
  obtain ⟨p0, p1⟩ := bounds_u8 w1_2
  obtain ⟨ev, rfl⟩ : ∃ m : Nat, n1_2 = m := ⟨n1_2.toNat, by omega⟩
  clear w0 w1_0 w1_1 w1_2 w1_3 w1_4
  have hal : Below w.heap.size w (w.alloc (.cells #[.int .u32 n1_0, .int .u32 n1_1, .int .u8 (ev : Nat), .int .u8 n1_3, .int .u32 n1_4] 142)) := (Below.refl _ _).alloc (Nat.le_refl _) _
  have hbox := heap_alloc_new w (.cells #[.int .u32 n1_0, .int .u32 n1_1, .int .u8 (ev : Nat), .int .u8 n1_3, .int .u32 n1_4] 142)
  go_enter Try.func11, Try.ntmps11
  go_wp2_with fail
  go_at_call 58
  refine (awake17 _).mono ?_
  rintro e w2 ⟨rfl, hb2⟩
  have hbox2 := box_below hbox hb2 (box_lt hbox)
  have HB2 := Lib.hid (hal.trans (hb2.mono hal.size))
  clear hbox hal hb2
  by_cases hr : 1 ≤ a0 ∧ a0 ≤ 16
  · obtain ⟨h1, h2⟩ := hr
    obtain ⟨n, rfl⟩ : ∃ n : Nat, a0 = n := ⟨a0.toNat, by omega⟩
    go_wp2_with fail
    go_at_call 59
    refine (jNew_ok n w2 (by omega) (by omega)).mono ?_
    rintro e w3 ⟨gj, g, b, rfl, _, _, _, _, hb3⟩
    have hbox2 := box_below hbox2 hb3 (box_lt hbox2)
    have HB2 := Lib.hid (HB2.out.trans (hb3.mono HB2.out.size))
    clear hb3
    have hjl := jLast (nil_jr w3)
    go_wp2_with fail
    go_at_call 61
    refine hjl.mono ?_
    rintro z w4 ⟨rfl, hb4⟩
    have hbox4 := box_below hbox2 hb4 (box_lt hbox2)
    have HB4 := Lib.hid (HB2.out.trans (hb4.mono HB2.out.size))
    clear hjl hb4 hbox2 HB2
    go_upto_region 7 with fail
    have hbox5 := box_below hbox4 ((Below.refl w4.heap.size w4).alloc (Nat.le_refl _) (.cells #[.int .u32 ((last []).q : Nat), .int .u32 ((last []).t : Nat), .int .u8 ((last []).e : Nat), .int .u8 ((last []).g : Nat), .int .u32 ((last []).d : Nat)] 143)) (box_lt hbox4)
    have HB5 := Lib.hid (HB4.out.trans (((Below.refl w4.heap.size w4).alloc (Nat.le_refl _) (.cells #[.int .u32 ((last []).q : Nat), .int .u32 ((last []).t : Nat), .int .u8 ((last []).e : Nat), .int .u8 ((last []).g : Nat), .int .u32 ((last []).d : Nat)] 143)).mono HB4.out.size))
    obtain ⟨w5, hw5⟩ : ∃ w5, w5 = w4.alloc (.cells #[.int .u32 ((last []).q : Nat), .int .u32 ((last []).t : Nat), .int .u8 ((last []).e : Nat), .int .u8 ((last []).g : Nat), .int .u32 ((last []).d : Nat)] 143) := ⟨_, rfl⟩
    rw [← hw5] at hbox5 HB5 ⊢
    clear hw5 hbox4 HB4
    have hxw := box_lt hbox5
    have a1 := cell_of_row _ _ 1 _ _ _ hbox5
    have a2 := cell_of_row _ _ 2 _ _ _ hbox5
    have a3 := cell_of_row _ _ 3 _ _ _ hbox5
    have a4 := cell_of_row _ _ 4 _ _ _ hbox5
    have heq : ∀ w : World, (binOp .eql 143 (.agg #[.int .u32 (en0.q : Nat), .int .u32 (en0.t : Nat), .int .u8 (en0.e : Nat), .int .u8 (en0.g : Nat), .int .u32 (en0.d : Nat)]) (.agg #[.int .u32 0, .int .u32 0, .int .u8 0, .int .u8 0, .int .u32 0])).run Try.prog w = .ok (.bool true) w := fun w => eqlEn en0 en0 w
    obtain ⟨I, W, hne, hWI, hIW⟩ := Go.Mix.family (fun v => Below w5.heap.size w5 v) (Below.refl _ _)
    have HJ := Lib.hid hIW
    have HW := Lib.hid hWI
    clear hWI hIW
    refine Go.Flo.wp_region (fun w' => ∃ i, w' = W i) 51 [Go.Flo.Spec.is (.agg #[.int .u32 (en0.q : Nat), .int .u32 (en0.t : Nat), .int .u8 (en0.e : Nat), .int .u8 (en0.g : Nat), .int .u32 (en0.d : Nat)]), SpLen 0, Go.Flo.Spec.is (.int .i64 0), Go.Flo.Spec.is (.int .i64 0), Go.Flo.Spec.is (.int .i64 0), SpLen 0] (by kernel_rfl) (by kernel_rfl) (by decide) (by rintro _ w' ⟨i, rfl⟩ hb; exact HJ.out _ ((HW.out i).trans (hb.mono (HW.out i).size))) (HJ.out _ (Below.refl _ _).drew) ?_
    simp only [Go.Flo.pair, Go.Mix.calm, List.take, List.drop, if_true, Bool.false_eq_true, if_false, Nat.reduceAdd, Nat.reduceSub]
    have c1 : ∀ i, (W i).cell? ⟨w.heap.size, 1, none⟩ = some (.int .u32 n1_1) := fun i => ((HW.out i).cell (p := ⟨w.heap.size, 1, none⟩) hxw).trans a1
    have c2 : ∀ i, (W i).cell? ⟨w.heap.size, 2, none⟩ = some (.int .u8 (ev : Nat)) := fun i => ((HW.out i).cell (p := ⟨w.heap.size, 2, none⟩) hxw).trans a2
    have c3 : ∀ i, (W i).cell? ⟨w.heap.size, 3, none⟩ = some (.int .u8 n1_3) := fun i => ((HW.out i).cell (p := ⟨w.heap.size, 3, none⟩) hxw).trans a3
    have c4 : ∀ i, (W i).cell? ⟨w.heap.size, 4, none⟩ = some (.int .u32 n1_4) := fun i => ((HW.out i).cell (p := ⟨w.heap.size, 4, none⟩) hxw).trans a4
    (repeat (first | (refine Go.Flo.fw_calm rfl ?_ (fun K hK => ?_); (first | exact Go.Mix.wanted_none rfl | exact Go.Mix.wanted_tt rfl rfl rfl | exact Go.Mix.wanted_ff rfl rfl rfl); go_big_quiet_op; refine hK _ ?_; clear hK K) | (refine Go.Flo.fw_skip ?_ (fun K hK => ?_); (first | exact Go.Mix.wanted_tf rfl rfl rfl | exact Go.Mix.wanted_ft rfl rfl rfl); go_simp; refine hK _ ?_; clear hK K) | (refine Go.Flo.fw_any rfl ?_ (fun K hK => ?_); (first | exact Go.Mix.wanted_none rfl | exact Go.Mix.wanted_tt rfl rfl rfl | exact Go.Mix.wanted_ff rfl rfl rfl); go_simp; (try (go_ints; try go_simp)); refine hK _ ?_; clear hK K)))
    refine Go.Flo.fw_loud rfl ?_ rfl (by simp) (fun wv hwv hav K hK => ?_) (fun v hv K hK => ?_)
    · (first | exact Go.Mix.wanted_none rfl | exact Go.Mix.wanted_tt rfl rfl rfl | exact Go.Mix.wanted_ff rfl rfl rfl)
    · obtain ⟨iv, rfl⟩ := hwv
      have hbv := HW.out iv
      (first | go_big_op | go_simp)
      go_at_call 60
      refine (note_nil _ _ _ _ _).mono ?_
      rintro e w' ⟨rfl, hb⟩
      exact hK _ _ (Go.Flo.owes_is _ rfl hb)
    obtain rfl := hv.is
    go_simp
    refine hK _ ?_
    clear hK K hv
    (repeat (first | (refine Go.Flo.fw_calm rfl ?_ (fun K hK => ?_); (first | exact Go.Mix.wanted_none rfl | exact Go.Mix.wanted_tt rfl rfl rfl | exact Go.Mix.wanted_ff rfl rfl rfl); go_big_quiet_op; refine hK _ ?_; clear hK K) | (refine Go.Flo.fw_skip ?_ (fun K hK => ?_); (first | exact Go.Mix.wanted_tf rfl rfl rfl | exact Go.Mix.wanted_ft rfl rfl rfl); go_simp; refine hK _ ?_; clear hK K) | (refine Go.Flo.fw_any rfl ?_ (fun K hK => ?_); (first | exact Go.Mix.wanted_none rfl | exact Go.Mix.wanted_tt rfl rfl rfl | exact Go.Mix.wanted_ff rfl rfl rfl); go_simp; (try (go_ints; try go_simp)); refine hK _ ?_; clear hK K)))
    refine Go.Flo.fw_loud rfl ?_ rfl (by simp) (fun wv hwv hav K hK => ?_) (fun v hv K hK => ?_)
    · (first | exact Go.Mix.wanted_none rfl | exact Go.Mix.wanted_tt rfl rfl rfl | exact Go.Mix.wanted_ff rfl rfl rfl)
    · obtain ⟨iv, rfl⟩ := hwv
      have hbv := HW.out iv
      (first | go_big_op | go_simp)
      go_at_call 63
      refine (jAll (nil_jr _)).mono ?_
      rintro e w' ⟨v, rfl, ho, hb⟩
      obtain ⟨a, c, rfl⟩ := own_form ho
      exact hK _ _ (owes_len rfl hb)
    obtain ⟨a6, c6, rfl⟩ := ex_len hv
    go_simp
    refine hK _ ?_
    clear hK K hv
    (repeat (first | (refine Go.Flo.fw_calm rfl ?_ (fun K hK => ?_); (first | exact Go.Mix.wanted_none rfl | exact Go.Mix.wanted_tt rfl rfl rfl | exact Go.Mix.wanted_ff rfl rfl rfl); go_big_quiet_op; refine hK _ ?_; clear hK K) | (refine Go.Flo.fw_skip ?_ (fun K hK => ?_); (first | exact Go.Mix.wanted_tf rfl rfl rfl | exact Go.Mix.wanted_ft rfl rfl rfl); go_simp; refine hK _ ?_; clear hK K) | (refine Go.Flo.fw_any rfl ?_ (fun K hK => ?_); (first | exact Go.Mix.wanted_none rfl | exact Go.Mix.wanted_tt rfl rfl rfl | exact Go.Mix.wanted_ff rfl rfl rfl); go_simp; (try (go_ints; try go_simp)); refine hK _ ?_; clear hK K)))
    refine Go.Flo.fw_loud rfl ?_ rfl (by simp) (fun wv hwv hav K hK => ?_) (fun v hv K hK => ?_)
    · (first | exact Go.Mix.wanted_none rfl | exact Go.Mix.wanted_tt rfl rfl rfl | exact Go.Mix.wanted_ff rfl rfl rfl)
    · obtain ⟨iv, rfl⟩ := hwv
      have hbv := HW.out iv
      (first | go_big_op | go_simp)
      go_at_call 65
      refine (jLen (nil_jr _)).mono ?_
      rintro e w' ⟨rfl, rfl⟩
      exact hK _ _ (Go.Flo.owes_is _ rfl (Below.refl _ _))
    obtain rfl := hv.is
    go_simp
    refine hK _ ?_
    clear hK K hv
    (repeat (first | (refine Go.Flo.fw_calm rfl ?_ (fun K hK => ?_); (first | exact Go.Mix.wanted_none rfl | exact Go.Mix.wanted_tt rfl rfl rfl | exact Go.Mix.wanted_ff rfl rfl rfl); go_big_quiet_op; refine hK _ ?_; clear hK K) | (refine Go.Flo.fw_skip ?_ (fun K hK => ?_); (first | exact Go.Mix.wanted_tf rfl rfl rfl | exact Go.Mix.wanted_ft rfl rfl rfl); go_simp; refine hK _ ?_; clear hK K) | (refine Go.Flo.fw_any rfl ?_ (fun K hK => ?_); (first | exact Go.Mix.wanted_none rfl | exact Go.Mix.wanted_tt rfl rfl rfl | exact Go.Mix.wanted_ff rfl rfl rfl); go_simp; (try (go_ints; try go_simp)); refine hK _ ?_; clear hK K)))
    refine Go.Flo.fw_loud rfl ?_ rfl (by simp) (fun wv hwv hav K hK => ?_) (fun v hv K hK => ?_)
    · (first | exact Go.Mix.wanted_none rfl | exact Go.Mix.wanted_tt rfl rfl rfl | exact Go.Mix.wanted_ff rfl rfl rfl)
    · obtain ⟨iv, rfl⟩ := hwv
      have hbv := HW.out iv
      (first | go_big_op | go_simp)
      go_at_call 66
      refine (jLost (nil_jr _)).mono ?_
      rintro e w' ⟨rfl, rfl⟩
      exact hK _ _ (Go.Flo.owes_is _ rfl (Below.refl _ _))
    obtain rfl := hv.is
    go_simp
    refine hK _ ?_
    clear hK K hv
    (repeat (first | (refine Go.Flo.fw_calm rfl ?_ (fun K hK => ?_); (first | exact Go.Mix.wanted_none rfl | exact Go.Mix.wanted_tt rfl rfl rfl | exact Go.Mix.wanted_ff rfl rfl rfl); go_big_quiet_op; refine hK _ ?_; clear hK K) | (refine Go.Flo.fw_skip ?_ (fun K hK => ?_); (first | exact Go.Mix.wanted_tf rfl rfl rfl | exact Go.Mix.wanted_ft rfl rfl rfl); go_simp; refine hK _ ?_; clear hK K) | (refine Go.Flo.fw_any rfl ?_ (fun K hK => ?_); (first | exact Go.Mix.wanted_none rfl | exact Go.Mix.wanted_tt rfl rfl rfl | exact Go.Mix.wanted_ff rfl rfl rfl); go_simp; (try (go_ints; try go_simp)); refine hK _ ?_; clear hK K)))
    refine Go.Flo.fw_loud rfl ?_ rfl (by simp) (fun wv hwv hav K hK => ?_) (fun v hv K hK => ?_)
    · (first | exact Go.Mix.wanted_none rfl | exact Go.Mix.wanted_tt rfl rfl rfl | exact Go.Mix.wanted_ff rfl rfl rfl)
    · obtain ⟨iv, rfl⟩ := hwv
      have hbv := HW.out iv
      (first | go_big_op | go_simp)
      go_at_call 67
      refine (jCount (nil_jr _) ev).mono ?_
      rintro e w' ⟨rfl, hb⟩
      exact hK _ _ (Go.Flo.owes_is _ rfl hb)
    obtain rfl := hv.is
    go_simp
    refine hK _ ?_
    clear hK K hv
    (repeat (first | (refine Go.Flo.fw_calm rfl ?_ (fun K hK => ?_); (first | exact Go.Mix.wanted_none rfl | exact Go.Mix.wanted_tt rfl rfl rfl | exact Go.Mix.wanted_ff rfl rfl rfl); go_big_quiet_op; refine hK _ ?_; clear hK K) | (refine Go.Flo.fw_skip ?_ (fun K hK => ?_); (first | exact Go.Mix.wanted_tf rfl rfl rfl | exact Go.Mix.wanted_ft rfl rfl rfl); go_simp; refine hK _ ?_; clear hK K) | (refine Go.Flo.fw_any rfl ?_ (fun K hK => ?_); (first | exact Go.Mix.wanted_none rfl | exact Go.Mix.wanted_tt rfl rfl rfl | exact Go.Mix.wanted_ff rfl rfl rfl); go_simp; (try (go_ints; try go_simp)); refine hK _ ?_; clear hK K)))
    refine Go.Flo.fw_loud rfl ?_ rfl (by simp) (fun wv hwv hav K hK => ?_) (fun v hv K hK => ?_)
    · (first | exact Go.Mix.wanted_none rfl | exact Go.Mix.wanted_tt rfl rfl rfl | exact Go.Mix.wanted_ff rfl rfl rfl)
    · obtain ⟨iv, rfl⟩ := hwv
      have hbv := HW.out iv
      (first | go_big_op | go_simp)
      go_at_call 68
      refine (jSince (nil_jr _) 0).mono ?_
      rintro e w' ⟨v, rfl, ho, hb⟩
      obtain ⟨a, c, rfl⟩ := own_form ho
      exact hK _ _ (owes_len rfl hb)
    obtain ⟨a7, c7, rfl⟩ := ex_len hv
    go_simp
    refine hK _ ?_
    clear hK K hv
    (repeat (first | (refine Go.Flo.fw_calm rfl ?_ (fun K hK => ?_); (first | exact Go.Mix.wanted_none rfl | exact Go.Mix.wanted_tt rfl rfl rfl | exact Go.Mix.wanted_ff rfl rfl rfl); go_big_quiet_op; refine hK _ ?_; clear hK K) | (refine Go.Flo.fw_skip ?_ (fun K hK => ?_); (first | exact Go.Mix.wanted_tf rfl rfl rfl | exact Go.Mix.wanted_ft rfl rfl rfl); go_simp; refine hK _ ?_; clear hK K) | (refine Go.Flo.fw_any rfl ?_ (fun K hK => ?_); (first | exact Go.Mix.wanted_none rfl | exact Go.Mix.wanted_tt rfl rfl rfl | exact Go.Mix.wanted_ff rfl rfl rfl); go_simp; (try (go_ints; try go_simp)); refine hK _ ?_; clear hK K)))
    refine Go.Flo.fw_nil ?_
    intro w6 hww6 hfw6 huw6
    refine Go.Flo.tw_nil ?_
    obtain ⟨iend, hiend⟩ := hww6
    have hbw6 := HW.out iend
    rw [← hiend] at hbw6
    clear hiend iend huw6
    have HB6 := Lib.hid (HB5.out.trans (hbw6.mono HB5.out.size))
    clear hfw6 HJ HW hne c1 c2 c3 c4 a1 a2 a3 a4 hbw6
    clear W I
    go_wp2
    go_ret
    exact ⟨rfl, HB6.out⟩
  · go_wp2_with fail
    go_at_call 59
    refine (jNew_bad a0 w2 (by omega)).mono ?_
    rintro e w3 ⟨rfl, rfl⟩
    by_cases h1 : a0 < 1
    · have hjl := jLast (nil_jr w2)
      go_wp2_with fail
      go_at_call 61
      refine hjl.mono ?_
      rintro z w4 ⟨rfl, hb4⟩
      have hbox4 := box_below hbox2 hb4 (box_lt hbox2)
      have HB4 := Lib.hid (HB2.out.trans (hb4.mono HB2.out.size))
      clear hjl hb4 hbox2 HB2
      go_upto_region 7 with fail
      have hbox5 := box_below hbox4 ((Below.refl w4.heap.size w4).alloc (Nat.le_refl _) (.cells #[.int .u32 ((last []).q : Nat), .int .u32 ((last []).t : Nat), .int .u8 ((last []).e : Nat), .int .u8 ((last []).g : Nat), .int .u32 ((last []).d : Nat)] 143)) (box_lt hbox4)
      have HB5 := Lib.hid (HB4.out.trans (((Below.refl w4.heap.size w4).alloc (Nat.le_refl _) (.cells #[.int .u32 ((last []).q : Nat), .int .u32 ((last []).t : Nat), .int .u8 ((last []).e : Nat), .int .u8 ((last []).g : Nat), .int .u32 ((last []).d : Nat)] 143)).mono HB4.out.size))
      obtain ⟨w5, hw5⟩ : ∃ w5, w5 = w4.alloc (.cells #[.int .u32 ((last []).q : Nat), .int .u32 ((last []).t : Nat), .int .u8 ((last []).e : Nat), .int .u8 ((last []).g : Nat), .int .u32 ((last []).d : Nat)] 143) := ⟨_, rfl⟩
      rw [← hw5] at hbox5 HB5 ⊢
      clear hw5 hbox4 HB4
      have hxw := box_lt hbox5
      have a1 := cell_of_row _ _ 1 _ _ _ hbox5
      have a2 := cell_of_row _ _ 2 _ _ _ hbox5
      have a3 := cell_of_row _ _ 3 _ _ _ hbox5
      have a4 := cell_of_row _ _ 4 _ _ _ hbox5
      have heq : ∀ w : World, (binOp .eql 143 (.agg #[.int .u32 (en0.q : Nat), .int .u32 (en0.t : Nat), .int .u8 (en0.e : Nat), .int .u8 (en0.g : Nat), .int .u32 (en0.d : Nat)]) (.agg #[.int .u32 0, .int .u32 0, .int .u8 0, .int .u8 0, .int .u32 0])).run Try.prog w = .ok (.bool true) w := fun w => eqlEn en0 en0 w
      obtain ⟨I, W, hne, hWI, hIW⟩ := Go.Mix.family (fun v => Below w5.heap.size w5 v) (Below.refl _ _)
      have HJ := Lib.hid hIW
      have HW := Lib.hid hWI
      clear hWI hIW
      refine Go.Flo.wp_region (fun w' => ∃ i, w' = W i) 51 [Go.Flo.Spec.is (.agg #[.int .u32 (en0.q : Nat), .int .u32 (en0.t : Nat), .int .u8 (en0.e : Nat), .int .u8 (en0.g : Nat), .int .u32 (en0.d : Nat)]), SpLen 0, Go.Flo.Spec.is (.int .i64 0), Go.Flo.Spec.is (.int .i64 0), Go.Flo.Spec.is (.int .i64 0), SpLen 0] (by kernel_rfl) (by kernel_rfl) (by decide) (by rintro _ w' ⟨i, rfl⟩ hb; exact HJ.out _ ((HW.out i).trans (hb.mono (HW.out i).size))) (HJ.out _ (Below.refl _ _).drew) ?_
      simp only [Go.Flo.pair, Go.Mix.calm, List.take, List.drop, if_true, Bool.false_eq_true, if_false, Nat.reduceAdd, Nat.reduceSub]
      have c1 : ∀ i, (W i).cell? ⟨w.heap.size, 1, none⟩ = some (.int .u32 n1_1) := fun i => ((HW.out i).cell (p := ⟨w.heap.size, 1, none⟩) hxw).trans a1
      have c2 : ∀ i, (W i).cell? ⟨w.heap.size, 2, none⟩ = some (.int .u8 (ev : Nat)) := fun i => ((HW.out i).cell (p := ⟨w.heap.size, 2, none⟩) hxw).trans a2
      have c3 : ∀ i, (W i).cell? ⟨w.heap.size, 3, none⟩ = some (.int .u8 n1_3) := fun i => ((HW.out i).cell (p := ⟨w.heap.size, 3, none⟩) hxw).trans a3
      have c4 : ∀ i, (W i).cell? ⟨w.heap.size, 4, none⟩ = some (.int .u32 n1_4) := fun i => ((HW.out i).cell (p := ⟨w.heap.size, 4, none⟩) hxw).trans a4
      (repeat (first | (refine Go.Flo.fw_calm rfl ?_ (fun K hK => ?_); (first | exact Go.Mix.wanted_none rfl | exact Go.Mix.wanted_tt rfl rfl rfl | exact Go.Mix.wanted_ff rfl rfl rfl); go_big_quiet_op; refine hK _ ?_; clear hK K) | (refine Go.Flo.fw_skip ?_ (fun K hK => ?_); (first | exact Go.Mix.wanted_tf rfl rfl rfl | exact Go.Mix.wanted_ft rfl rfl rfl); go_simp; refine hK _ ?_; clear hK K) | (refine Go.Flo.fw_any rfl ?_ (fun K hK => ?_); (first | exact Go.Mix.wanted_none rfl | exact Go.Mix.wanted_tt rfl rfl rfl | exact Go.Mix.wanted_ff rfl rfl rfl); go_simp; (try (go_ints; try go_simp)); refine hK _ ?_; clear hK K)))
      refine Go.Flo.fw_loud rfl ?_ rfl (by simp) (fun wv hwv hav K hK => ?_) (fun v hv K hK => ?_)
      · (first | exact Go.Mix.wanted_none rfl | exact Go.Mix.wanted_tt rfl rfl rfl | exact Go.Mix.wanted_ff rfl rfl rfl)
      · obtain ⟨iv, rfl⟩ := hwv
        have hbv := HW.out iv
        (first | go_big_op | go_simp)
        go_at_call 60
        refine (note_nil _ _ _ _ _).mono ?_
        rintro e w' ⟨rfl, hb⟩
        exact hK _ _ (Go.Flo.owes_is _ rfl hb)
      obtain rfl := hv.is
      go_simp
      refine hK _ ?_
      clear hK K hv
      (repeat (first | (refine Go.Flo.fw_calm rfl ?_ (fun K hK => ?_); (first | exact Go.Mix.wanted_none rfl | exact Go.Mix.wanted_tt rfl rfl rfl | exact Go.Mix.wanted_ff rfl rfl rfl); go_big_quiet_op; refine hK _ ?_; clear hK K) | (refine Go.Flo.fw_skip ?_ (fun K hK => ?_); (first | exact Go.Mix.wanted_tf rfl rfl rfl | exact Go.Mix.wanted_ft rfl rfl rfl); go_simp; refine hK _ ?_; clear hK K) | (refine Go.Flo.fw_any rfl ?_ (fun K hK => ?_); (first | exact Go.Mix.wanted_none rfl | exact Go.Mix.wanted_tt rfl rfl rfl | exact Go.Mix.wanted_ff rfl rfl rfl); go_simp; (try (go_ints; try go_simp)); refine hK _ ?_; clear hK K)))
      refine Go.Flo.fw_loud rfl ?_ rfl (by simp) (fun wv hwv hav K hK => ?_) (fun v hv K hK => ?_)
      · (first | exact Go.Mix.wanted_none rfl | exact Go.Mix.wanted_tt rfl rfl rfl | exact Go.Mix.wanted_ff rfl rfl rfl)
      · obtain ⟨iv, rfl⟩ := hwv
        have hbv := HW.out iv
        (first | go_big_op | go_simp)
        go_at_call 63
        refine (jAll (nil_jr _)).mono ?_
        rintro e w' ⟨v, rfl, ho, hb⟩
        obtain ⟨a, c, rfl⟩ := own_form ho
        exact hK _ _ (owes_len rfl hb)
      obtain ⟨a6, c6, rfl⟩ := ex_len hv
      go_simp
      refine hK _ ?_
      clear hK K hv
      (repeat (first | (refine Go.Flo.fw_calm rfl ?_ (fun K hK => ?_); (first | exact Go.Mix.wanted_none rfl | exact Go.Mix.wanted_tt rfl rfl rfl | exact Go.Mix.wanted_ff rfl rfl rfl); go_big_quiet_op; refine hK _ ?_; clear hK K) | (refine Go.Flo.fw_skip ?_ (fun K hK => ?_); (first | exact Go.Mix.wanted_tf rfl rfl rfl | exact Go.Mix.wanted_ft rfl rfl rfl); go_simp; refine hK _ ?_; clear hK K) | (refine Go.Flo.fw_any rfl ?_ (fun K hK => ?_); (first | exact Go.Mix.wanted_none rfl | exact Go.Mix.wanted_tt rfl rfl rfl | exact Go.Mix.wanted_ff rfl rfl rfl); go_simp; (try (go_ints; try go_simp)); refine hK _ ?_; clear hK K)))
      refine Go.Flo.fw_loud rfl ?_ rfl (by simp) (fun wv hwv hav K hK => ?_) (fun v hv K hK => ?_)
      · (first | exact Go.Mix.wanted_none rfl | exact Go.Mix.wanted_tt rfl rfl rfl | exact Go.Mix.wanted_ff rfl rfl rfl)
      · obtain ⟨iv, rfl⟩ := hwv
        have hbv := HW.out iv
        (first | go_big_op | go_simp)
        go_at_call 65
        refine (jLen (nil_jr _)).mono ?_
        rintro e w' ⟨rfl, rfl⟩
        exact hK _ _ (Go.Flo.owes_is _ rfl (Below.refl _ _))
      obtain rfl := hv.is
      go_simp
      refine hK _ ?_
      clear hK K hv
      (repeat (first | (refine Go.Flo.fw_calm rfl ?_ (fun K hK => ?_); (first | exact Go.Mix.wanted_none rfl | exact Go.Mix.wanted_tt rfl rfl rfl | exact Go.Mix.wanted_ff rfl rfl rfl); go_big_quiet_op; refine hK _ ?_; clear hK K) | (refine Go.Flo.fw_skip ?_ (fun K hK => ?_); (first | exact Go.Mix.wanted_tf rfl rfl rfl | exact Go.Mix.wanted_ft rfl rfl rfl); go_simp; refine hK _ ?_; clear hK K) | (refine Go.Flo.fw_any rfl ?_ (fun K hK => ?_); (first | exact Go.Mix.wanted_none rfl | exact Go.Mix.wanted_tt rfl rfl rfl | exact Go.Mix.wanted_ff rfl rfl rfl); go_simp; (try (go_ints; try go_simp)); refine hK _ ?_; clear hK K)))
      refine Go.Flo.fw_loud rfl ?_ rfl (by simp) (fun wv hwv hav K hK => ?_) (fun v hv K hK => ?_)
      · (first | exact Go.Mix.wanted_none rfl | exact Go.Mix.wanted_tt rfl rfl rfl | exact Go.Mix.wanted_ff rfl rfl rfl)
      · obtain ⟨iv, rfl⟩ := hwv
        have hbv := HW.out iv
        (first | go_big_op | go_simp)
        go_at_call 66
        refine (jLost (nil_jr _)).mono ?_
        rintro e w' ⟨rfl, rfl⟩
        exact hK _ _ (Go.Flo.owes_is _ rfl (Below.refl _ _))
      obtain rfl := hv.is
      go_simp
      refine hK _ ?_
      clear hK K hv
      (repeat (first | (refine Go.Flo.fw_calm rfl ?_ (fun K hK => ?_); (first | exact Go.Mix.wanted_none rfl | exact Go.Mix.wanted_tt rfl rfl rfl | exact Go.Mix.wanted_ff rfl rfl rfl); go_big_quiet_op; refine hK _ ?_; clear hK K) | (refine Go.Flo.fw_skip ?_ (fun K hK => ?_); (first | exact Go.Mix.wanted_tf rfl rfl rfl | exact Go.Mix.wanted_ft rfl rfl rfl); go_simp; refine hK _ ?_; clear hK K) | (refine Go.Flo.fw_any rfl ?_ (fun K hK => ?_); (first | exact Go.Mix.wanted_none rfl | exact Go.Mix.wanted_tt rfl rfl rfl | exact Go.Mix.wanted_ff rfl rfl rfl); go_simp; (try (go_ints; try go_simp)); refine hK _ ?_; clear hK K)))
      refine Go.Flo.fw_loud rfl ?_ rfl (by simp) (fun wv hwv hav K hK => ?_) (fun v hv K hK => ?_)
      · (first | exact Go.Mix.wanted_none rfl | exact Go.Mix.wanted_tt rfl rfl rfl | exact Go.Mix.wanted_ff rfl rfl rfl)
      · obtain ⟨iv, rfl⟩ := hwv
        have hbv := HW.out iv
        (first | go_big_op | go_simp)
        go_at_call 67
        refine (jCount (nil_jr _) ev).mono ?_
        rintro e w' ⟨rfl, hb⟩
        exact hK _ _ (Go.Flo.owes_is _ rfl hb)
      obtain rfl := hv.is
      go_simp
      refine hK _ ?_
      clear hK K hv
      (repeat (first | (refine Go.Flo.fw_calm rfl ?_ (fun K hK => ?_); (first | exact Go.Mix.wanted_none rfl | exact Go.Mix.wanted_tt rfl rfl rfl | exact Go.Mix.wanted_ff rfl rfl rfl); go_big_quiet_op; refine hK _ ?_; clear hK K) | (refine Go.Flo.fw_skip ?_ (fun K hK => ?_); (first | exact Go.Mix.wanted_tf rfl rfl rfl | exact Go.Mix.wanted_ft rfl rfl rfl); go_simp; refine hK _ ?_; clear hK K) | (refine Go.Flo.fw_any rfl ?_ (fun K hK => ?_); (first | exact Go.Mix.wanted_none rfl | exact Go.Mix.wanted_tt rfl rfl rfl | exact Go.Mix.wanted_ff rfl rfl rfl); go_simp; (try (go_ints; try go_simp)); refine hK _ ?_; clear hK K)))
      refine Go.Flo.fw_loud rfl ?_ rfl (by simp) (fun wv hwv hav K hK => ?_) (fun v hv K hK => ?_)
      · (first | exact Go.Mix.wanted_none rfl | exact Go.Mix.wanted_tt rfl rfl rfl | exact Go.Mix.wanted_ff rfl rfl rfl)
      · obtain ⟨iv, rfl⟩ := hwv
        have hbv := HW.out iv
        (first | go_big_op | go_simp)
        go_at_call 68
        refine (jSince (nil_jr _) 0).mono ?_
        rintro e w' ⟨v, rfl, ho, hb⟩
        obtain ⟨a, c, rfl⟩ := own_form ho
        exact hK _ _ (owes_len rfl hb)
      obtain ⟨a7, c7, rfl⟩ := ex_len hv
      go_simp
      refine hK _ ?_
      clear hK K hv
      (repeat (first | (refine Go.Flo.fw_calm rfl ?_ (fun K hK => ?_); (first | exact Go.Mix.wanted_none rfl | exact Go.Mix.wanted_tt rfl rfl rfl | exact Go.Mix.wanted_ff rfl rfl rfl); go_big_quiet_op; refine hK _ ?_; clear hK K) | (refine Go.Flo.fw_skip ?_ (fun K hK => ?_); (first | exact Go.Mix.wanted_tf rfl rfl rfl | exact Go.Mix.wanted_ft rfl rfl rfl); go_simp; refine hK _ ?_; clear hK K) | (refine Go.Flo.fw_any rfl ?_ (fun K hK => ?_); (first | exact Go.Mix.wanted_none rfl | exact Go.Mix.wanted_tt rfl rfl rfl | exact Go.Mix.wanted_ff rfl rfl rfl); go_simp; (try (go_ints; try go_simp)); refine hK _ ?_; clear hK K)))
      refine Go.Flo.fw_nil ?_
      intro w6 hww6 hfw6 huw6
      refine Go.Flo.tw_nil ?_
      obtain ⟨iend, hiend⟩ := hww6
      have hbw6 := HW.out iend
      rw [← hiend] at hbw6
      clear hiend iend huw6
      have HB6 := Lib.hid (HB5.out.trans (hbw6.mono HB5.out.size))
      clear hfw6 HJ HW hne c1 c2 c3 c4 a1 a2 a3 a4 hbw6
      clear W I
      go_wp2
      go_ret
      exact ⟨rfl, HB6.out⟩
    · have h2 : decide (a0 ≤ 16) = false := by simp; omega
      have h3 : 1 ≤ a0 := by omega
      have hjl := jLast (nil_jr w2)
      go_wp2_with fail
      go_at_call 61
      refine hjl.mono ?_
      rintro z w4 ⟨rfl, hb4⟩
      have hbox4 := box_below hbox2 hb4 (box_lt hbox2)
      have HB4 := Lib.hid (HB2.out.trans (hb4.mono HB2.out.size))
      clear hjl hb4 hbox2 HB2
      go_upto_region 7 with fail
      have hbox5 := box_below hbox4 ((Below.refl w4.heap.size w4).alloc (Nat.le_refl _) (.cells #[.int .u32 ((last []).q : Nat), .int .u32 ((last []).t : Nat), .int .u8 ((last []).e : Nat), .int .u8 ((last []).g : Nat), .int .u32 ((last []).d : Nat)] 143)) (box_lt hbox4)
      have HB5 := Lib.hid (HB4.out.trans (((Below.refl w4.heap.size w4).alloc (Nat.le_refl _) (.cells #[.int .u32 ((last []).q : Nat), .int .u32 ((last []).t : Nat), .int .u8 ((last []).e : Nat), .int .u8 ((last []).g : Nat), .int .u32 ((last []).d : Nat)] 143)).mono HB4.out.size))
      obtain ⟨w5, hw5⟩ : ∃ w5, w5 = w4.alloc (.cells #[.int .u32 ((last []).q : Nat), .int .u32 ((last []).t : Nat), .int .u8 ((last []).e : Nat), .int .u8 ((last []).g : Nat), .int .u32 ((last []).d : Nat)] 143) := ⟨_, rfl⟩
      rw [← hw5] at hbox5 HB5 ⊢
      clear hw5 hbox4 HB4
      have hxw := box_lt hbox5
      have a1 := cell_of_row _ _ 1 _ _ _ hbox5
      have a2 := cell_of_row _ _ 2 _ _ _ hbox5
      have a3 := cell_of_row _ _ 3 _ _ _ hbox5
      have a4 := cell_of_row _ _ 4 _ _ _ hbox5
      have heq : ∀ w : World, (binOp .eql 143 (.agg #[.int .u32 (en0.q : Nat), .int .u32 (en0.t : Nat), .int .u8 (en0.e : Nat), .int .u8 (en0.g : Nat), .int .u32 (en0.d : Nat)]) (.agg #[.int .u32 0, .int .u32 0, .int .u8 0, .int .u8 0, .int .u32 0])).run Try.prog w = .ok (.bool true) w := fun w => eqlEn en0 en0 w
      obtain ⟨I, W, hne, hWI, hIW⟩ := Go.Mix.family (fun v => Below w5.heap.size w5 v) (Below.refl _ _)
      have HJ := Lib.hid hIW
      have HW := Lib.hid hWI
      clear hWI hIW
      refine Go.Flo.wp_region (fun w' => ∃ i, w' = W i) 51 [Go.Flo.Spec.is (.agg #[.int .u32 (en0.q : Nat), .int .u32 (en0.t : Nat), .int .u8 (en0.e : Nat), .int .u8 (en0.g : Nat), .int .u32 (en0.d : Nat)]), SpLen 0, Go.Flo.Spec.is (.int .i64 0), Go.Flo.Spec.is (.int .i64 0), Go.Flo.Spec.is (.int .i64 0), SpLen 0] (by kernel_rfl) (by kernel_rfl) (by decide) (by rintro _ w' ⟨i, rfl⟩ hb; exact HJ.out _ ((HW.out i).trans (hb.mono (HW.out i).size))) (HJ.out _ (Below.refl _ _).drew) ?_
      simp only [Go.Flo.pair, Go.Mix.calm, List.take, List.drop, if_true, Bool.false_eq_true, if_false, Nat.reduceAdd, Nat.reduceSub]
      have c1 : ∀ i, (W i).cell? ⟨w.heap.size, 1, none⟩ = some (.int .u32 n1_1) := fun i => ((HW.out i).cell (p := ⟨w.heap.size, 1, none⟩) hxw).trans a1
      have c2 : ∀ i, (W i).cell? ⟨w.heap.size, 2, none⟩ = some (.int .u8 (ev : Nat)) := fun i => ((HW.out i).cell (p := ⟨w.heap.size, 2, none⟩) hxw).trans a2
      have c3 : ∀ i, (W i).cell? ⟨w.heap.size, 3, none⟩ = some (.int .u8 n1_3) := fun i => ((HW.out i).cell (p := ⟨w.heap.size, 3, none⟩) hxw).trans a3
      have c4 : ∀ i, (W i).cell? ⟨w.heap.size, 4, none⟩ = some (.int .u32 n1_4) := fun i => ((HW.out i).cell (p := ⟨w.heap.size, 4, none⟩) hxw).trans a4
      (repeat (first | (refine Go.Flo.fw_calm rfl ?_ (fun K hK => ?_); (first | exact Go.Mix.wanted_none rfl | exact Go.Mix.wanted_tt rfl rfl rfl | exact Go.Mix.wanted_ff rfl rfl rfl); go_big_quiet_op; refine hK _ ?_; clear hK K) | (refine Go.Flo.fw_skip ?_ (fun K hK => ?_); (first | exact Go.Mix.wanted_tf rfl rfl rfl | exact Go.Mix.wanted_ft rfl rfl rfl); go_simp; refine hK _ ?_; clear hK K) | (refine Go.Flo.fw_any rfl ?_ (fun K hK => ?_); (first | exact Go.Mix.wanted_none rfl | exact Go.Mix.wanted_tt rfl rfl rfl | exact Go.Mix.wanted_ff rfl rfl rfl); go_simp; (try (go_ints; try go_simp)); refine hK _ ?_; clear hK K)))
      refine Go.Flo.fw_loud rfl ?_ rfl (by simp) (fun wv hwv hav K hK => ?_) (fun v hv K hK => ?_)
      · (first | exact Go.Mix.wanted_none rfl | exact Go.Mix.wanted_tt rfl rfl rfl | exact Go.Mix.wanted_ff rfl rfl rfl)
      · obtain ⟨iv, rfl⟩ := hwv
        have hbv := HW.out iv
        (first | go_big_op | go_simp)
        go_at_call 60
        refine (note_nil _ _ _ _ _).mono ?_
        rintro e w' ⟨rfl, hb⟩
        exact hK _ _ (Go.Flo.owes_is _ rfl hb)
      obtain rfl := hv.is
      go_simp
      refine hK _ ?_
      clear hK K hv
      (repeat (first | (refine Go.Flo.fw_calm rfl ?_ (fun K hK => ?_); (first | exact Go.Mix.wanted_none rfl | exact Go.Mix.wanted_tt rfl rfl rfl | exact Go.Mix.wanted_ff rfl rfl rfl); go_big_quiet_op; refine hK _ ?_; clear hK K) | (refine Go.Flo.fw_skip ?_ (fun K hK => ?_); (first | exact Go.Mix.wanted_tf rfl rfl rfl | exact Go.Mix.wanted_ft rfl rfl rfl); go_simp; refine hK _ ?_; clear hK K) | (refine Go.Flo.fw_any rfl ?_ (fun K hK => ?_); (first | exact Go.Mix.wanted_none rfl | exact Go.Mix.wanted_tt rfl rfl rfl | exact Go.Mix.wanted_ff rfl rfl rfl); go_simp; (try (go_ints; try go_simp)); refine hK _ ?_; clear hK K)))
      refine Go.Flo.fw_loud rfl ?_ rfl (by simp) (fun wv hwv hav K hK => ?_) (fun v hv K hK => ?_)
      · (first | exact Go.Mix.wanted_none rfl | exact Go.Mix.wanted_tt rfl rfl rfl | exact Go.Mix.wanted_ff rfl rfl rfl)
      · obtain ⟨iv, rfl⟩ := hwv
        have hbv := HW.out iv
        (first | go_big_op | go_simp)
        go_at_call 63
        refine (jAll (nil_jr _)).mono ?_
        rintro e w' ⟨v, rfl, ho, hb⟩
        obtain ⟨a, c, rfl⟩ := own_form ho
        exact hK _ _ (owes_len rfl hb)
      obtain ⟨a6, c6, rfl⟩ := ex_len hv
      go_simp
      refine hK _ ?_
      clear hK K hv
      (repeat (first | (refine Go.Flo.fw_calm rfl ?_ (fun K hK => ?_); (first | exact Go.Mix.wanted_none rfl | exact Go.Mix.wanted_tt rfl rfl rfl | exact Go.Mix.wanted_ff rfl rfl rfl); go_big_quiet_op; refine hK _ ?_; clear hK K) | (refine Go.Flo.fw_skip ?_ (fun K hK => ?_); (first | exact Go.Mix.wanted_tf rfl rfl rfl | exact Go.Mix.wanted_ft rfl rfl rfl); go_simp; refine hK _ ?_; clear hK K) | (refine Go.Flo.fw_any rfl ?_ (fun K hK => ?_); (first | exact Go.Mix.wanted_none rfl | exact Go.Mix.wanted_tt rfl rfl rfl | exact Go.Mix.wanted_ff rfl rfl rfl); go_simp; (try (go_ints; try go_simp)); refine hK _ ?_; clear hK K)))
      refine Go.Flo.fw_loud rfl ?_ rfl (by simp) (fun wv hwv hav K hK => ?_) (fun v hv K hK => ?_)
      · (first | exact Go.Mix.wanted_none rfl | exact Go.Mix.wanted_tt rfl rfl rfl | exact Go.Mix.wanted_ff rfl rfl rfl)
      · obtain ⟨iv, rfl⟩ := hwv
        have hbv := HW.out iv
        (first | go_big_op | go_simp)
        go_at_call 65
        refine (jLen (nil_jr _)).mono ?_
        rintro e w' ⟨rfl, rfl⟩
        exact hK _ _ (Go.Flo.owes_is _ rfl (Below.refl _ _))
      obtain rfl := hv.is
      go_simp
      refine hK _ ?_
      clear hK K hv
      (repeat (first | (refine Go.Flo.fw_calm rfl ?_ (fun K hK => ?_); (first | exact Go.Mix.wanted_none rfl | exact Go.Mix.wanted_tt rfl rfl rfl | exact Go.Mix.wanted_ff rfl rfl rfl); go_big_quiet_op; refine hK _ ?_; clear hK K) | (refine Go.Flo.fw_skip ?_ (fun K hK => ?_); (first | exact Go.Mix.wanted_tf rfl rfl rfl | exact Go.Mix.wanted_ft rfl rfl rfl); go_simp; refine hK _ ?_; clear hK K) | (refine Go.Flo.fw_any rfl ?_ (fun K hK => ?_); (first | exact Go.Mix.wanted_none rfl | exact Go.Mix.wanted_tt rfl rfl rfl | exact Go.Mix.wanted_ff rfl rfl rfl); go_simp; (try (go_ints; try go_simp)); refine hK _ ?_; clear hK K)))
      refine Go.Flo.fw_loud rfl ?_ rfl (by simp) (fun wv hwv hav K hK => ?_) (fun v hv K hK => ?_)
      · (first | exact Go.Mix.wanted_none rfl | exact Go.Mix.wanted_tt rfl rfl rfl | exact Go.Mix.wanted_ff rfl rfl rfl)
      · obtain ⟨iv, rfl⟩ := hwv
        have hbv := HW.out iv
        (first | go_big_op | go_simp)
        go_at_call 66
        refine (jLost (nil_jr _)).mono ?_
        rintro e w' ⟨rfl, rfl⟩
        exact hK _ _ (Go.Flo.owes_is _ rfl (Below.refl _ _))
      obtain rfl := hv.is
      go_simp
      refine hK _ ?_
      clear hK K hv
      (repeat (first | (refine Go.Flo.fw_calm rfl ?_ (fun K hK => ?_); (first | exact Go.Mix.wanted_none rfl | exact Go.Mix.wanted_tt rfl rfl rfl | exact Go.Mix.wanted_ff rfl rfl rfl); go_big_quiet_op; refine hK _ ?_; clear hK K) | (refine Go.Flo.fw_skip ?_ (fun K hK => ?_); (first | exact Go.Mix.wanted_tf rfl rfl rfl | exact Go.Mix.wanted_ft rfl rfl rfl); go_simp; refine hK _ ?_; clear hK K) | (refine Go.Flo.fw_any rfl ?_ (fun K hK => ?_); (first | exact Go.Mix.wanted_none rfl | exact Go.Mix.wanted_tt rfl rfl rfl | exact Go.Mix.wanted_ff rfl rfl rfl); go_simp; (try (go_ints; try go_simp)); refine hK _ ?_; clear hK K)))
      refine Go.Flo.fw_loud rfl ?_ rfl (by simp) (fun wv hwv hav K hK => ?_) (fun v hv K hK => ?_)
      · (first | exact Go.Mix.wanted_none rfl | exact Go.Mix.wanted_tt rfl rfl rfl | exact Go.Mix.wanted_ff rfl rfl rfl)
      · obtain ⟨iv, rfl⟩ := hwv
        have hbv := HW.out iv
        (first | go_big_op | go_simp)
        go_at_call 67
        refine (jCount (nil_jr _) ev).mono ?_
        rintro e w' ⟨rfl, hb⟩
        exact hK _ _ (Go.Flo.owes_is _ rfl hb)
      obtain rfl := hv.is
      go_simp
      refine hK _ ?_
      clear hK K hv
      (repeat (first | (refine Go.Flo.fw_calm rfl ?_ (fun K hK => ?_); (first | exact Go.Mix.wanted_none rfl | exact Go.Mix.wanted_tt rfl rfl rfl | exact Go.Mix.wanted_ff rfl rfl rfl); go_big_quiet_op; refine hK _ ?_; clear hK K) | (refine Go.Flo.fw_skip ?_ (fun K hK => ?_); (first | exact Go.Mix.wanted_tf rfl rfl rfl | exact Go.Mix.wanted_ft rfl rfl rfl); go_simp; refine hK _ ?_; clear hK K) | (refine Go.Flo.fw_any rfl ?_ (fun K hK => ?_); (first | exact Go.Mix.wanted_none rfl | exact Go.Mix.wanted_tt rfl rfl rfl | exact Go.Mix.wanted_ff rfl rfl rfl); go_simp; (try (go_ints; try go_simp)); refine hK _ ?_; clear hK K)))
      refine Go.Flo.fw_loud rfl ?_ rfl (by simp) (fun wv hwv hav K hK => ?_) (fun v hv K hK => ?_)
      · (first | exact Go.Mix.wanted_none rfl | exact Go.Mix.wanted_tt rfl rfl rfl | exact Go.Mix.wanted_ff rfl rfl rfl)
      · obtain ⟨iv, rfl⟩ := hwv
        have hbv := HW.out iv
        (first | go_big_op | go_simp)
        go_at_call 68
        refine (jSince (nil_jr _) 0).mono ?_
        rintro e w' ⟨v, rfl, ho, hb⟩
        obtain ⟨a, c, rfl⟩ := own_form ho
        exact hK _ _ (owes_len rfl hb)
      obtain ⟨a7, c7, rfl⟩ := ex_len hv
      go_simp
      refine hK _ ?_
      clear hK K hv
      (repeat (first | (refine Go.Flo.fw_calm rfl ?_ (fun K hK => ?_); (first | exact Go.Mix.wanted_none rfl | exact Go.Mix.wanted_tt rfl rfl rfl | exact Go.Mix.wanted_ff rfl rfl rfl); go_big_quiet_op; refine hK _ ?_; clear hK K) | (refine Go.Flo.fw_skip ?_ (fun K hK => ?_); (first | exact Go.Mix.wanted_tf rfl rfl rfl | exact Go.Mix.wanted_ft rfl rfl rfl); go_simp; refine hK _ ?_; clear hK K) | (refine Go.Flo.fw_any rfl ?_ (fun K hK => ?_); (first | exact Go.Mix.wanted_none rfl | exact Go.Mix.wanted_tt rfl rfl rfl | exact Go.Mix.wanted_ff rfl rfl rfl); go_simp; (try (go_ints; try go_simp)); refine hK _ ?_; clear hK K)))
      refine Go.Flo.fw_nil ?_
      intro w6 hww6 hfw6 huw6
      refine Go.Flo.tw_nil ?_
      obtain ⟨iend, hiend⟩ := hww6
      have hbw6 := HW.out iend
      rw [← hiend] at hbw6
      clear hiend iend huw6
      have HB6 := Lib.hid (HB5.out.trans (hbw6.mono HB5.out.size))
      clear hfw6 HJ HW hne c1 c2 c3 c4 a1 a2 a3 a4 hbw6
      clear W I
      go_wp2
      go_ret
      exact ⟨rfl, HB6.out⟩
end Go.Proofs.Ytkgeeohgfbacaaa
