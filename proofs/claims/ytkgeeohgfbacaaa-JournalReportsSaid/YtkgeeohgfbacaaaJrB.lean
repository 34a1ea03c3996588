/- Layer 17: an entry's report, the program's and the document's. -/
import Derived.Test.YtkgeeohgfbacaaaJo
import Derived.Test.YtkgeeohgfbacaaaPs3
import Derived.Test.YtkgeeohgfbacaaaSpR
namespace Go.Proofs.Ytkgeeohgfbacaaa.Je
open Go.RowKit Go.Own Go.Shelf
set_option linter.unusedVariables false
set_option linter.unusedSimpArgs false
/-- What may stand in an entry. -/
structure En.ok (x : En) : Prop where
  q : x.q < 4294967296
  t : x.t < 4294967296
  e : x.e < 256
  g : x.g < 255
  d : x.d < 4294967296
/-- The bytes of a report's data. -/
def jeB (x : En) : List Nat := [x.e] ++ numB x.q 4 ++ numB x.t 4 ++ numB x.d 4
theorem jeB_len (x : En) : (jeB x).length = 13 := by simp [jeB, numB_len]
theorem sizes_at (w : World) : Calls Try.prog 122 #[] w fun e w' => e = .returned (.slice (some ⟨w.heap.size, 0, none⟩) 4 4) ∧ w' = w.alloc (.cells #[.int .i64 1, .int .i64 4, .int .i64 4, .int .i64 4] 3) := by
  go_enter Try.func122, Try.ntmps122
  go_wp2
  go_ret
  exact ⟨rfl, rfl⟩
theorem lay_je {e q t d : Nat} (he : e < 256) : flat (fun i => lay1 (([1, 4, 4, 4] : List Int).getD i 0) (nth (fun i => ([e, q, t, d] : List Nat).getD i 0) 4 i)) 4 = [e] ++ numB q 4 ++ numB t 4 ++ numB d 4 := by
  simp [flat, List.range_succ, lay1, nth, numB]
  omega
def at4 {α : Type} (a b c d : α) : Nat → α := fun i => if i = 0 then a else if i = 1 then b else if i = 2 then c else d
theorem all4 {p : Nat → Prop} (h0 : p 0) (h1 : p 1) (h2 : p 2) (h3 : p 3) : ∀ i, i < 4 → p i := fun i hi => by
  have : i = 0 ∨ i = 1 ∨ i = 2 ∨ i = 3 := by omega
  rcases this with rfl | rfl | rfl | rfl
  · exact h0
  · exact h1
  · exact h2
  · exact h3
set_option maxRecDepth 100000 in
set_option maxHeartbeats 4000000 in
theorem jReport (x : En) (w : World) (hx : x.ok) :
    Calls Try.prog 69 #[.agg #[.int .u32 (x.q : Nat), .int .u32 (x.t : Nat), .int .u8 (x.e : Nat), .int .u8 (x.g : Nat), .int .u32 (x.d : Nat)]] w fun z w' => ∃ v, z = .returned (.tuple #[.int .u8 ((x.g + 1 : Nat) : Int), v]) ∧ w'.ownsRow w.heap.size 5 1 v 13 (bl (jeB x)) ∧ Below w.heap.size w w' := by
  have hln := jeB_len x
  obtain ⟨B, hB⟩ : ∃ B, B = jeB x := ⟨_, rfl⟩
  rw [← hB] at hln ⊢
  obtain ⟨q, t, e, r, d⟩ := x
  obtain ⟨hq, ht, he, hr, hd⟩ := hx
  simp only [] at hq ht he hr hd
  have H32 := Lib.hid (show ∀ i, i < 4 → ([e, q, t, d] : List Nat).getD i 0 < 4294967296 from fun i hi => by
    have : i = 0 ∨ i = 1 ∨ i = 2 ∨ i = 3 := by omega
    rcases this with rfl | rfl | rfl | rfl <;> simp <;> omega)
  have HLAY := Lib.hid (show _ = B from (lay_je (q := q) (t := t) (d := d) he).trans hB.symm)
  have HLN := Lib.hid hln
  have hb0 : Below w.heap.size w (w.alloc (.cells #[.int .u32 (q : Nat), .int .u32 (t : Nat), .int .u8 (e : Nat), .int .u8 (r : Nat), .int .u32 (d : Nat)] 143)) := (Below.refl _ _).alloc (Nat.le_refl _) _
  have g0 := heap_alloc_new w (.cells #[.int .u32 (q : Nat), .int .u32 (t : Nat), .int .u8 (e : Nat), .int .u8 (r : Nat), .int .u32 (d : Nat)] 143)
  have hr1 : IntKind.u8.wrap ((r : Int) + 1) = ((r + 1 : Nat) : Int) := by rw [IntKind.wrap_u8]; omega
  clear hB hln
  go_enter Try.func69, Try.ntmps69
  go_wp2_with fail
  obtain ⟨g, hg⟩ : ∃ g, g = w.heap.size := ⟨_, rfl⟩
  obtain ⟨w1, hw1⟩ : ∃ w1, w1 = w.alloc (.cells #[.int .u32 (q : Nat), .int .u32 (t : Nat), .int .u8 (e : Nat), .int .u8 (r : Nat), .int .u32 (d : Nat)] 143) := ⟨_, rfl⟩
  rw [← hw1] at hb0 g0 ⊢
  rw [← hg] at g0 ⊢
  have hwn := hb0.size
  have HB1 := Lib.hid hb0
  have hgl := box_lt g0
  clear hw1 hg hb0
  have a0 := cell_of_row _ _ 0 _ _ _ g0
  have a1 := cell_of_row _ _ 1 _ _ _ g0
  have a2 := cell_of_row _ _ 2 _ _ _ g0
  have a3 := cell_of_row _ _ 3 _ _ _ g0
  have a4 := cell_of_row _ _ 4 _ _ _ g0
  obtain ⟨I, W, hne, hWI, hIW⟩ := Go.Mix.family (fun v => Below w1.heap.size w1 v) (Below.refl _ _)
  have HJ := Lib.hid hIW
  have HW := Lib.hid hWI
  clear hWI hIW
  refine Go.Flo.wp_region (fun w' => ∃ i, w' = W i) 17 [Go.Flo.Spec.row 0 4 #[.int .i64 1, .int .i64 4, .int .i64 4, .int .i64 4] 3, Go.Flo.Spec.row w1.heap.size 4 #[.int .u32 (e : Nat), .int .u32 (q : Nat), .int .u32 (t : Nat), .int .u32 (d : Nat)] 53, SpO w.heap.size B] (by kernel_rfl) (by kernel_rfl) (by decide) (by rintro _ w' ⟨i, rfl⟩ hb; exact HJ.out _ ((HW.out i).trans (hb.mono (HW.out i).size))) (HJ.out _ (Below.refl _ _).drew) ?_
  simp only [Go.Flo.pair, Go.Mix.calm, List.take, List.drop, if_true, Bool.false_eq_true, if_false, Nat.reduceAdd, Nat.reduceSub]
  have k0 : ∀ i, (W i).cell? ⟨g, 0, none⟩ = some (.int .u32 (q : Nat)) := fun i => ((HW.out i).cell (p := ⟨g, 0, none⟩) hgl).trans a0
  have k1 : ∀ i, (W i).cell? ⟨g, 1, none⟩ = some (.int .u32 (t : Nat)) := fun i => ((HW.out i).cell (p := ⟨g, 1, none⟩) hgl).trans a1
  have k2 : ∀ i, (W i).cell? ⟨g, 2, none⟩ = some (.int .u8 (e : Nat)) := fun i => ((HW.out i).cell (p := ⟨g, 2, none⟩) hgl).trans a2
  have k3 : ∀ i, (W i).cell? ⟨g, 3, none⟩ = some (.int .u8 (r : Nat)) := fun i => ((HW.out i).cell (p := ⟨g, 3, none⟩) hgl).trans a3
  have k4 : ∀ i, (W i).cell? ⟨g, 4, none⟩ = some (.int .u32 (d : Nat)) := fun i => ((HW.out i).cell (p := ⟨g, 4, none⟩) hgl).trans a4
  clear a0 a1 a2 a3 a4
  (repeat (first | (refine Go.Flo.fw_calm rfl ?_ (fun K hK => ?_); (first | exact Go.Mix.wanted_none rfl | exact Go.Mix.wanted_tt rfl rfl rfl | exact Go.Mix.wanted_ff rfl rfl rfl); go_big_quiet_op; refine hK _ ?_; clear hK K) | (refine Go.Flo.fw_skip ?_ (fun K hK => ?_); (first | exact Go.Mix.wanted_tf rfl rfl rfl | exact Go.Mix.wanted_ft rfl rfl rfl); go_simp; refine hK _ ?_; clear hK K) | (refine Go.Flo.fw_any rfl ?_ (fun K hK => ?_); (first | exact Go.Mix.wanted_none rfl | exact Go.Mix.wanted_tt rfl rfl rfl | exact Go.Mix.wanted_ff rfl rfl rfl); go_simp; (try (go_ints; try go_simp)); refine hK _ ?_; clear hK K)))
  refine Go.Flo.fw_loud rfl ?_ rfl (by simp) (fun wv hwv hav K hK => ?_) (fun v hv K hK => ?_)
  · (first | exact Go.Mix.wanted_none rfl | exact Go.Mix.wanted_tt rfl rfl rfl | exact Go.Mix.wanted_ff rfl rfl rfl)
  · obtain ⟨iv, rfl⟩ := hwv
    have hbv := HW.out iv
    (first | go_big_op | go_simp)
    go_at_call 122
    refine (sizes_at _).mono ?_
    rintro e w' ⟨rfl, rfl⟩
    exact hK _ _ (Go.Flo.owes_row (Nat.zero_le _))
  obtain ⟨r1, hr1, rfl⟩ := hv.row
  go_simp
  refine hK _ ?_
  clear hK K hv
  (repeat (first | (refine Go.Flo.fw_calm rfl ?_ (fun K hK => ?_); (first | exact Go.Mix.wanted_none rfl | exact Go.Mix.wanted_tt rfl rfl rfl | exact Go.Mix.wanted_ff rfl rfl rfl); go_big_quiet_op; refine hK _ ?_; clear hK K) | (refine Go.Flo.fw_skip ?_ (fun K hK => ?_); (first | exact Go.Mix.wanted_tf rfl rfl rfl | exact Go.Mix.wanted_ft rfl rfl rfl); go_simp; refine hK _ ?_; clear hK K) | (refine Go.Flo.fw_any rfl ?_ (fun K hK => ?_); (first | exact Go.Mix.wanted_none rfl | exact Go.Mix.wanted_tt rfl rfl rfl | exact Go.Mix.wanted_ff rfl rfl rfl); go_simp; (try (go_ints; try go_simp)); refine hK _ ?_; clear hK K)))
  refine Go.Flo.fw_loud rfl ?_ rfl (by simp) (fun wv hwv hav K hK => ?_) (fun v hv K hK => ?_)
  · (first | exact Go.Mix.wanted_none rfl | exact Go.Mix.wanted_tt rfl rfl rfl | exact Go.Mix.wanted_ff rfl rfl rfl)
  · obtain ⟨iv, rfl⟩ := hwv
    (first | go_big_op | go_simp)
    refine hK _ _ (Go.Flo.owes_row (HW.out iv).size)
  obtain ⟨r2, hr2, rfl⟩ := hv.row
  go_simp
  refine hK _ ?_
  clear hK K hv
  (repeat (first | (refine Go.Flo.fw_calm rfl ?_ (fun K hK => ?_); (first | exact Go.Mix.wanted_none rfl | exact Go.Mix.wanted_tt rfl rfl rfl | exact Go.Mix.wanted_ff rfl rfl rfl); go_big_quiet_op; refine hK _ ?_; clear hK K) | (refine Go.Flo.fw_skip ?_ (fun K hK => ?_); (first | exact Go.Mix.wanted_tf rfl rfl rfl | exact Go.Mix.wanted_ft rfl rfl rfl); go_simp; refine hK _ ?_; clear hK K) | (refine Go.Flo.fw_any rfl ?_ (fun K hK => ?_); (first | exact Go.Mix.wanted_none rfl | exact Go.Mix.wanted_tt rfl rfl rfl | exact Go.Mix.wanted_ff rfl rfl rfl); go_simp; (try (go_ints; try go_simp)); refine hK _ ?_; clear hK K)))
  refine Go.Flo.fw_loud rfl ?_ rfl (by simp) (fun wv hwv hav K hK => ?_) (fun v hv K hK => ?_)
  · (first | exact Go.Mix.wanted_none rfl | exact Go.Mix.wanted_tt rfl rfl rfl | exact Go.Mix.wanted_ff rfl rfl rfl)
  · obtain ⟨iv, rfl⟩ := hwv
    have hbv := HW.out iv
    (first | go_big_op | go_simp)
    have f1 := hav 7 (by decide +kernel)
    iterate 10 (replace f1 := f1.1)
    have s1 := Go.Flo.says_row (f1.2 rfl).1
    have s2 := Go.Flo.says_row ((hav 17 (by decide +kernel)).2 rfl).1
    have q1 := rd_map (n := (W iv).heap.size) (m := 4) ([1, 4, 4, 4] : List Int) 0 (fun z => Value.int .i64 z) s1 (box_lt s1) rfl (by decide)
    have q2 := rd_map (n := (W iv).heap.size) (m := 4) ([e, q, t, d] : List Nat) 0 (fun z => Value.int .u32 ((z : Nat) : Int)) s2 (box_lt s2) rfl (by decide)
    go_at_call 121
    refine (Lay_any _ _ 4 4 4 4 _ _ (fun i => ([1, 4, 4, 4] : List Int).getD i 0) (fun i => ([e, q, t, d] : List Nat).getD i 0) _ q1 q2 (Nat.le_refl _) (Nat.le_refl _) H32.out (by decide)).mono ?_
    rintro e w' ⟨v, rfl, hown, hbb⟩
    rw [HLAY.out] at hown
    exact hK _ _ (owes_O rfl rfl hbb hown (by have := hbv.size; omega))
  obtain ⟨a8, c8, rfl⟩ := ex_O hv
  go_simp
  refine hK _ ?_
  clear hK K hv
  (repeat (first | (refine Go.Flo.fw_calm rfl ?_ (fun K hK => ?_); (first | exact Go.Mix.wanted_none rfl | exact Go.Mix.wanted_tt rfl rfl rfl | exact Go.Mix.wanted_ff rfl rfl rfl); go_big_quiet_op; refine hK _ ?_; clear hK K) | (refine Go.Flo.fw_skip ?_ (fun K hK => ?_); (first | exact Go.Mix.wanted_tf rfl rfl rfl | exact Go.Mix.wanted_ft rfl rfl rfl); go_simp; refine hK _ ?_; clear hK K) | (refine Go.Flo.fw_any rfl ?_ (fun K hK => ?_); (first | exact Go.Mix.wanted_none rfl | exact Go.Mix.wanted_tt rfl rfl rfl | exact Go.Mix.wanted_ff rfl rfl rfl); go_simp; (try (go_ints; try go_simp)); refine hK _ ?_; clear hK K)))
  refine Go.Flo.fw_nil ?_
  intro w4 hww4 hfw4 huw4
  refine Go.Flo.tw_nil ?_
  obtain ⟨iend, hiend⟩ := hww4
  have hbw4 := HW.out iend
  rw [← hiend] at hbw4
  clear hiend iend huw4
  have hsays : w4.ownsRow w.heap.size 5 1 (.slice a8 B.length c8) B.length (bl B) := ((hfw4 (some 18)).1.1.2 rfl).1
  clear hfw4 HJ HW hne k0 k1 k2 k3 k4
  clear W I
  rw [HLN.out] at hsays ⊢
  have HB4 := Lib.hid (HB1.out.trans (hbw4.mono HB1.out.size))
  have HSY := Lib.hid hsays
  clear hsays hbw4
  go_wp2
  go_ret2
  exact ⟨_, rfl, HSY.out, HB4.out⟩
set_option maxRecDepth 100000 in
set_option maxHeartbeats 4000000 in
theorem rText (x : En) (w : World) (hx : x.ok) :
    Calls Try.prog 71 #[.agg #[.int .u32 (x.q : Nat), .int .u32 (x.t : Nat), .int .u8 (x.e : Nat), .int .u8 (x.g : Nat), .int .u32 (x.d : Nat)]] w fun z w' => ∃ v, z = .returned v ∧ w'.ownsRow w.heap.size 5 1 v 13 (bl (jeB x)) ∧ Below w.heap.size w w' := by
  have hln := jeB_len x
  obtain ⟨B, hB⟩ : ∃ B, B = jeB x := ⟨_, rfl⟩
  rw [← hB] at hln ⊢
  obtain ⟨q, t, e, r, d⟩ := x
  obtain ⟨hq, ht, he, hr, hd⟩ := hx
  simp only [] at hq ht he hr hd
  obtain ⟨B1, hB1⟩ : ∃ B, B = numB q 4 := ⟨_, rfl⟩
  obtain ⟨B2, hB2⟩ : ∃ B, B = numB t 4 := ⟨_, rfl⟩
  obtain ⟨B3, hB3⟩ : ∃ B, B = numB d 4 := ⟨_, rfl⟩
  have HBB := Lib.hid (And.intro hB1 (And.intro hB2 hB3))
  have HLL := Lib.hid (show B1.length = 4 ∧ B2.length = 4 ∧ B3.length = 4 from ⟨by rw [hB1]; exact numB_len _ _, by rw [hB2]; exact numB_len _ _, by rw [hB3]; exact numB_len _ _⟩)
  have HBF := Lib.hid (show ([[e], B1, B2, B3] : List (List Nat)).flatten = B by rw [hB, hB1, hB2, hB3]; simp [jeB])
  have HLN := Lib.hid hln
  have hb0 : Below w.heap.size w (w.alloc (.cells #[.int .u32 (q : Nat), .int .u32 (t : Nat), .int .u8 (e : Nat), .int .u8 (r : Nat), .int .u32 (d : Nat)] 142)) := (Below.refl _ _).alloc (Nat.le_refl _) _
  have g0 := heap_alloc_new w (.cells #[.int .u32 (q : Nat), .int .u32 (t : Nat), .int .u8 (e : Nat), .int .u8 (r : Nat), .int .u32 (d : Nat)] 142)
  clear hB hln hB1 hB2 hB3
  go_enter Try.func71, Try.ntmps71
  go_wp2_with fail
  obtain ⟨g, hg⟩ : ∃ g, g = w.heap.size := ⟨_, rfl⟩
  obtain ⟨w1, hw1⟩ : ∃ w1, w1 = w.alloc (.cells #[.int .u32 (q : Nat), .int .u32 (t : Nat), .int .u8 (e : Nat), .int .u8 (r : Nat), .int .u32 (d : Nat)] 142) := ⟨_, rfl⟩
  rw [← hw1] at hb0 g0 ⊢
  rw [← hg] at g0 ⊢
  have hwn := hb0.size
  have HB1 := Lib.hid hb0
  have hgl := box_lt g0
  clear hw1 hg hb0
  have a0 := cell_of_row _ _ 0 _ _ _ g0
  have a1 := cell_of_row _ _ 1 _ _ _ g0
  have a2 := cell_of_row _ _ 2 _ _ _ g0
  have a3 := cell_of_row _ _ 3 _ _ _ g0
  have a4 := cell_of_row _ _ 4 _ _ _ g0
  obtain ⟨I, W, hne, hWI, hIW⟩ := Go.Mix.family (fun v => Below w1.heap.size w1 v) (Below.refl _ _)
  have HJ := Lib.hid hIW
  have HW := Lib.hid hWI
  clear hWI hIW
  refine Go.Flo.wp_region (fun w' => ∃ i, w' = W i) 18 [SpB [e], SpB B1, SpB B2, SpB B3, SpRows 0 [[e], B1, B2, B3] 54, SpO w.heap.size B] (by kernel_rfl) (by kernel_rfl) (by decide) (by rintro _ w' ⟨i, rfl⟩ hb; exact HJ.out _ ((HW.out i).trans (hb.mono (HW.out i).size))) (HJ.out _ (Below.refl _ _).drew) ?_
  simp only [Go.Flo.pair, Go.Mix.calm, List.take, List.drop, if_true, Bool.false_eq_true, if_false, Nat.reduceAdd, Nat.reduceSub]
  have k0 : ∀ i, (W i).cell? ⟨g, 0, none⟩ = some (.int .u32 (q : Nat)) := fun i => ((HW.out i).cell (p := ⟨g, 0, none⟩) hgl).trans a0
  have k1 : ∀ i, (W i).cell? ⟨g, 1, none⟩ = some (.int .u32 (t : Nat)) := fun i => ((HW.out i).cell (p := ⟨g, 1, none⟩) hgl).trans a1
  have k2 : ∀ i, (W i).cell? ⟨g, 2, none⟩ = some (.int .u8 (e : Nat)) := fun i => ((HW.out i).cell (p := ⟨g, 2, none⟩) hgl).trans a2
  have k3 : ∀ i, (W i).cell? ⟨g, 3, none⟩ = some (.int .u8 (r : Nat)) := fun i => ((HW.out i).cell (p := ⟨g, 3, none⟩) hgl).trans a3
  have k4 : ∀ i, (W i).cell? ⟨g, 4, none⟩ = some (.int .u32 (d : Nat)) := fun i => ((HW.out i).cell (p := ⟨g, 4, none⟩) hgl).trans a4
  clear a0 a1 a2 a3 a4
  (repeat (first | (refine Go.Flo.fw_calm rfl ?_ (fun K hK => ?_); (first | exact Go.Mix.wanted_none rfl | exact Go.Mix.wanted_tt rfl rfl rfl | exact Go.Mix.wanted_ff rfl rfl rfl); go_big_quiet_op; refine hK _ ?_; clear hK K) | (refine Go.Flo.fw_skip ?_ (fun K hK => ?_); (first | exact Go.Mix.wanted_tf rfl rfl rfl | exact Go.Mix.wanted_ft rfl rfl rfl); go_simp; refine hK _ ?_; clear hK K) | (refine Go.Flo.fw_any rfl ?_ (fun K hK => ?_); (first | exact Go.Mix.wanted_none rfl | exact Go.Mix.wanted_tt rfl rfl rfl | exact Go.Mix.wanted_ff rfl rfl rfl); go_simp; (try (go_ints; try go_simp)); refine hK _ ?_; clear hK K)))
  refine Go.Flo.fw_loud rfl ?_ rfl (by simp) (fun wv hwv hav K hK => ?_) (fun v hv K hK => ?_)
  · (first | exact Go.Mix.wanted_none rfl | exact Go.Mix.wanted_tt rfl rfl rfl | exact Go.Mix.wanted_ff rfl rfl rfl)
  · obtain ⟨iv, rfl⟩ := hwv
    have hbv := HW.out iv
    (first | go_big_op | go_simp)
    refine hK _ _ (owes_lit rfl (by decide) rfl)
  obtain ⟨b1, q1, rfl⟩ := ex_B hv
  go_simp
  refine hK _ ?_
  clear hK K hv
  (repeat (first | (refine Go.Flo.fw_calm rfl ?_ (fun K hK => ?_); (first | exact Go.Mix.wanted_none rfl | exact Go.Mix.wanted_tt rfl rfl rfl | exact Go.Mix.wanted_ff rfl rfl rfl); go_big_quiet_op; refine hK _ ?_; clear hK K) | (refine Go.Flo.fw_skip ?_ (fun K hK => ?_); (first | exact Go.Mix.wanted_tf rfl rfl rfl | exact Go.Mix.wanted_ft rfl rfl rfl); go_simp; refine hK _ ?_; clear hK K) | (refine Go.Flo.fw_any rfl ?_ (fun K hK => ?_); (first | exact Go.Mix.wanted_none rfl | exact Go.Mix.wanted_tt rfl rfl rfl | exact Go.Mix.wanted_ff rfl rfl rfl); go_simp; (try (go_ints; try go_simp)); refine hK _ ?_; clear hK K)))
  refine Go.Flo.fw_loud rfl ?_ rfl (by simp) (fun wv hwv hav K hK => ?_) (fun v hv K hK => ?_)
  · (first | exact Go.Mix.wanted_none rfl | exact Go.Mix.wanted_tt rfl rfl rfl | exact Go.Mix.wanted_ff rfl rfl rfl)
  · obtain ⟨iv, rfl⟩ := hwv
    have hbv := HW.out iv
    (first | go_big_op | go_simp)
    go_at_call 125
    refine (Num_any q 4 _ (by omega) (by decide)).mono ?_
    rintro e w' ⟨b2, q2, rfl, hown, hbb⟩
    rw [← HBB.out.1] at hown
    exact hK _ _ (owes_B HLL.out.1 rfl hbb hown)
  obtain ⟨b2, q2, rfl⟩ := ex_B hv
  rw [HLL.out.1]
  go_simp
  refine hK _ ?_
  clear hK K hv
  (repeat (first | (refine Go.Flo.fw_calm rfl ?_ (fun K hK => ?_); (first | exact Go.Mix.wanted_none rfl | exact Go.Mix.wanted_tt rfl rfl rfl | exact Go.Mix.wanted_ff rfl rfl rfl); go_big_quiet_op; refine hK _ ?_; clear hK K) | (refine Go.Flo.fw_skip ?_ (fun K hK => ?_); (first | exact Go.Mix.wanted_tf rfl rfl rfl | exact Go.Mix.wanted_ft rfl rfl rfl); go_simp; refine hK _ ?_; clear hK K) | (refine Go.Flo.fw_any rfl ?_ (fun K hK => ?_); (first | exact Go.Mix.wanted_none rfl | exact Go.Mix.wanted_tt rfl rfl rfl | exact Go.Mix.wanted_ff rfl rfl rfl); go_simp; (try (go_ints; try go_simp)); refine hK _ ?_; clear hK K)))
  refine Go.Flo.fw_loud rfl ?_ rfl (by simp) (fun wv hwv hav K hK => ?_) (fun v hv K hK => ?_)
  · (first | exact Go.Mix.wanted_none rfl | exact Go.Mix.wanted_tt rfl rfl rfl | exact Go.Mix.wanted_ff rfl rfl rfl)
  · obtain ⟨iv, rfl⟩ := hwv
    have hbv := HW.out iv
    (first | go_big_op | go_simp)
    go_at_call 125
    refine (Num_any t 4 _ (by omega) (by decide)).mono ?_
    rintro e w' ⟨b2, q2, rfl, hown, hbb⟩
    rw [← HBB.out.2.1] at hown
    exact hK _ _ (owes_B HLL.out.2.1 rfl hbb hown)
  obtain ⟨b3, q3, rfl⟩ := ex_B hv
  rw [HLL.out.2.1]
  go_simp
  refine hK _ ?_
  clear hK K hv
  (repeat (first | (refine Go.Flo.fw_calm rfl ?_ (fun K hK => ?_); (first | exact Go.Mix.wanted_none rfl | exact Go.Mix.wanted_tt rfl rfl rfl | exact Go.Mix.wanted_ff rfl rfl rfl); go_big_quiet_op; refine hK _ ?_; clear hK K) | (refine Go.Flo.fw_skip ?_ (fun K hK => ?_); (first | exact Go.Mix.wanted_tf rfl rfl rfl | exact Go.Mix.wanted_ft rfl rfl rfl); go_simp; refine hK _ ?_; clear hK K) | (refine Go.Flo.fw_any rfl ?_ (fun K hK => ?_); (first | exact Go.Mix.wanted_none rfl | exact Go.Mix.wanted_tt rfl rfl rfl | exact Go.Mix.wanted_ff rfl rfl rfl); go_simp; (try (go_ints; try go_simp)); refine hK _ ?_; clear hK K)))
  refine Go.Flo.fw_loud rfl ?_ rfl (by simp) (fun wv hwv hav K hK => ?_) (fun v hv K hK => ?_)
  · (first | exact Go.Mix.wanted_none rfl | exact Go.Mix.wanted_tt rfl rfl rfl | exact Go.Mix.wanted_ff rfl rfl rfl)
  · obtain ⟨iv, rfl⟩ := hwv
    have hbv := HW.out iv
    (first | go_big_op | go_simp)
    go_at_call 125
    refine (Num_any d 4 _ (by omega) (by decide)).mono ?_
    rintro e w' ⟨b2, q2, rfl, hown, hbb⟩
    rw [← HBB.out.2.2] at hown
    exact hK _ _ (owes_B HLL.out.2.2 rfl hbb hown)
  obtain ⟨b4, q4, rfl⟩ := ex_B hv
  rw [HLL.out.2.2]
  go_simp
  refine hK _ ?_
  clear hK K hv
  (repeat (first | (refine Go.Flo.fw_calm rfl ?_ (fun K hK => ?_); (first | exact Go.Mix.wanted_none rfl | exact Go.Mix.wanted_tt rfl rfl rfl | exact Go.Mix.wanted_ff rfl rfl rfl); go_big_quiet_op; refine hK _ ?_; clear hK K) | (refine Go.Flo.fw_skip ?_ (fun K hK => ?_); (first | exact Go.Mix.wanted_tf rfl rfl rfl | exact Go.Mix.wanted_ft rfl rfl rfl); go_simp; refine hK _ ?_; clear hK K) | (refine Go.Flo.fw_any rfl ?_ (fun K hK => ?_); (first | exact Go.Mix.wanted_none rfl | exact Go.Mix.wanted_tt rfl rfl rfl | exact Go.Mix.wanted_ff rfl rfl rfl); go_simp; (try (go_ints; try go_simp)); refine hK _ ?_; clear hK K)))
  refine Go.Flo.fw_loud rfl ?_ rfl (by simp) (fun wv hwv hav K hK => ?_) (fun v hv K hK => ?_)
  · (first | exact Go.Mix.wanted_none rfl | exact Go.Mix.wanted_tt rfl rfl rfl | exact Go.Mix.wanted_ff rfl rfl rfl)
  · obtain ⟨iv, rfl⟩ := hwv
    have hbv := HW.out iv
    (first | go_big_op | go_simp)
    have f1 := hav 5 (by decide +kernel)
    iterate 12 (replace f1 := f1.1)
    have f2 := hav 9 (by decide +kernel)
    iterate 8 (replace f2 := f2.1)
    have f3 := hav 13 (by decide +kernel)
    iterate 4 (replace f3 := f3.1)
    have f4 := hav 17 (by decide +kernel)
    have s1 := says_B (f1.2 rfl).1
    have s2 := says_B (f2.2 rfl).1
    have s3 := says_B (f3.2 rfl).1
    have s4 := says_B (f4.2 rfl).1
    try rw [← HLL.out.1] at s2
    try rw [← HLL.out.2.1] at s3
    try rw [← HLL.out.2.2] at s4
    refine hK _ _ (owes_rows (at4 b1 b2 b3 b4) (at4 q1 q2 q3 q4) (Nat.zero_le _) rfl ?_ (all4 s1 s2 s3 s4))
    simp [rowsC, at4, List.range_succ, HLL.out]
  obtain ⟨g6, rfl⟩ := ex_rows hv
  go_simp
  refine hK _ ?_
  clear hK K hv
  (repeat (first | (refine Go.Flo.fw_calm rfl ?_ (fun K hK => ?_); (first | exact Go.Mix.wanted_none rfl | exact Go.Mix.wanted_tt rfl rfl rfl | exact Go.Mix.wanted_ff rfl rfl rfl); go_big_quiet_op; refine hK _ ?_; clear hK K) | (refine Go.Flo.fw_skip ?_ (fun K hK => ?_); (first | exact Go.Mix.wanted_tf rfl rfl rfl | exact Go.Mix.wanted_ft rfl rfl rfl); go_simp; refine hK _ ?_; clear hK K) | (refine Go.Flo.fw_any rfl ?_ (fun K hK => ?_); (first | exact Go.Mix.wanted_none rfl | exact Go.Mix.wanted_tt rfl rfl rfl | exact Go.Mix.wanted_ff rfl rfl rfl); go_simp; (try (go_ints; try go_simp)); refine hK _ ?_; clear hK K)))
  refine Go.Flo.fw_loud rfl ?_ rfl (by simp) (fun wv hwv hav K hK => ?_) (fun v hv K hK => ?_)
  · (first | exact Go.Mix.wanted_none rfl | exact Go.Mix.wanted_tt rfl rfl rfl | exact Go.Mix.wanted_ff rfl rfl rfl)
  · obtain ⟨iv, rfl⟩ := hwv
    have hbv := HW.out iv
    (first | go_big_op | go_simp)
    have s4 := ((hav 18 (by decide +kernel)).2 rfl).1
    go_at_call 124
    refine (JoinRows s4 (by simp) (by rw [HBF.out, HLN.out]; omega)).mono ?_
    rintro e w' ⟨v, rfl, hown, hbb⟩
    rw [HBF.out] at hown
    exact hK _ _ (owes_O rfl rfl hbb hown (by have := hbv.size; omega))
  obtain ⟨a8, c8, rfl⟩ := ex_O hv
  go_simp
  refine hK _ ?_
  clear hK K hv
  (repeat (first | (refine Go.Flo.fw_calm rfl ?_ (fun K hK => ?_); (first | exact Go.Mix.wanted_none rfl | exact Go.Mix.wanted_tt rfl rfl rfl | exact Go.Mix.wanted_ff rfl rfl rfl); go_big_quiet_op; refine hK _ ?_; clear hK K) | (refine Go.Flo.fw_skip ?_ (fun K hK => ?_); (first | exact Go.Mix.wanted_tf rfl rfl rfl | exact Go.Mix.wanted_ft rfl rfl rfl); go_simp; refine hK _ ?_; clear hK K) | (refine Go.Flo.fw_any rfl ?_ (fun K hK => ?_); (first | exact Go.Mix.wanted_none rfl | exact Go.Mix.wanted_tt rfl rfl rfl | exact Go.Mix.wanted_ff rfl rfl rfl); go_simp; (try (go_ints; try go_simp)); refine hK _ ?_; clear hK K)))
  refine Go.Flo.fw_nil ?_
  intro w4 hww4 hfw4 huw4
  refine Go.Flo.tw_nil ?_
  obtain ⟨iend, hiend⟩ := hww4
  have hbw4 := HW.out iend
  rw [← hiend] at hbw4
  clear hiend iend huw4
  have hsays : w4.ownsRow w.heap.size 5 1 (.slice a8 B.length c8) B.length (bl B) := ((hfw4 (some 19)).1.2 rfl).1
  clear hfw4 HJ HW hne k0 k1 k2 k3 k4
  clear W I
  rw [HLN.out] at hsays ⊢
  have HB4 := Lib.hid (HB1.out.trans (hbw4.mono HB1.out.size))
  have HSY := Lib.hid hsays
  clear hsays hbw4
  go_wp2
  go_ret
  exact ⟨_, rfl, HSY.out, HB4.out⟩
end Go.Proofs.Ytkgeeohgfbacaaa.Je
