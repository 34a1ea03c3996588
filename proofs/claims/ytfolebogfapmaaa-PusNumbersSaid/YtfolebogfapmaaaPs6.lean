/- Commands and reports: the document's bytes. -/
import Derived.Test.YtfolebogfapmaaaPs3
import Derived.Test.YtfolebogfapmaaaSpR
import Derived.Test.YtfolebogfapmaaaPk7
namespace Go.Proofs.Ytfolebogfapmaaa
open Go.RowKit Go.Own
set_option linter.unusedVariables false
set_option linter.unusedSimpArgs false

/-- What the document's bytes of a command, of a report, are. -/
def CmTold (w : World) (a s u c len : Nat) (d : List Nat) (e : Ending) (w' : World) : Prop :=
  Below w.heap.size w w' ∧ ((cmBad a len ≠ 0 ∧ e = .returned (.tuple #[.slice none 0 0, .int .i64 (cmBad a len : Nat)])) ∨
    (cmBad a len = 0 ∧ ∃ v, e = .returned (.tuple #[v, .int .i64 0]) ∧ w'.ownsRow w.heap.size 5 1 v (len + 5) (bl (cmB a s u c d))))
def RpTold (w : World) (s u c t len : Nat) (d : List Nat) (e : Ending) (w' : World) : Prop :=
  Below w.heap.size w w' ∧ ((rpBad len ≠ 0 ∧ e = .returned (.tuple #[.slice none 0 0, .int .i64 (rpBad len : Nat)])) ∨
    (rpBad len = 0 ∧ ∃ v, e = .returned (.tuple #[v, .int .i64 0]) ∧ w'.ownsRow w.heap.size 5 1 v (len + 11) (bl (rpB s u c t d))))
def at3 {α : Type} (a b c : α) : Nat → α := fun i => if i = 0 then a else if i = 1 then b else c
def at5 {α : Type} (a b c d e : α) : Nat → α := fun i => if i = 0 then a else if i = 1 then b else if i = 2 then c else if i = 3 then d else e
theorem all3 {p : Nat → Prop} (h0 : p 0) (h1 : p 1) (h2 : p 2) : ∀ i, i < 3 → p i := fun i hi => by
  have : i = 0 ∨ i = 1 ∨ i = 2 := by omega
  rcases this with rfl | rfl | rfl
  · exact h0
  · exact h1
  · exact h2
theorem all5 {p : Nat → Prop} (h0 : p 0) (h1 : p 1) (h2 : p 2) (h3 : p 3) (h4 : p 4) : ∀ i, i < 5 → p i := fun i hi => by
  have : i = 0 ∨ i = 1 ∨ i = 2 ∨ i = 3 ∨ i = 4 := by omega
  rcases this with rfl | rfl | rfl | rfl | rfl
  · exact h0
  · exact h1
  · exact h2
  · exact h3
  · exact h4
set_option maxRecDepth 100000 in
set_option maxHeartbeats 4000000 in
theorem BytesOf_any (a s u c : Nat) (x : Option Addr) (len cap n : Nat) (d : List Nat) (w : World) (ha : a < 256) (hs : s < 256) (hu : u < 256) (hc : c < 65536) (hl : d.length = len) (hn : n ≤ w.heap.size) (hr : Rd n w x len cap (bv d)) (hm : len ≤ 1000000) :
    Calls Try.prog 25 #[.agg #[.int .u8 (a : Nat), .int .u8 (s : Nat), .int .u8 (u : Nat), .int .u16 (c : Nat), .slice x len cap]] w (CmTold w a s u c len d) := by
  have h1 := hr.le
  have h2 := hr.top
  unfold maxLen at h2
  have HR := Lib.hid hr
  have HL := Lib.hid hl
  clear hr hl
  by_cases hA : 15 < a
  · have HE := Lib.hid (show cmBad a len = 1 by unfold cmBad; rw [if_pos hA])
    go_enter Try.func25, Try.ntmps25
    go_wp2
    go_ret2
    exact ⟨by repeat' (first | (with_reducible exact Below.refl _ _) | (with_reducible assumption) | (with_reducible refine Below.setCell ?_ ?_ _) | (with_reducible refine Below.alloc ?_ ?_ _) | (with_reducible refine Below.drew ?_) | (with_reducible refine Below.drawsN ?_ _) | go_size), .inl ⟨by rw [HE.out]; decide, by rw [HE.out]; rfl⟩⟩
  obtain ⟨y, hy⟩ : ∃ y, y = 32 + a := ⟨_, rfl⟩
  have hyI : (32 : Int) + a = (y : Int) := by omega
  have hyW : IntKind.u8.wrap ((32 : Int) + a) = (y : Int) := by rw [IntKind.wrap_u8]; omega
  obtain ⟨N, hN⟩ : ∃ N, N = numB c 2 := ⟨_, rfl⟩
  have hNl : N.length = 2 := by rw [hN]; exact numB_len _ _
  obtain ⟨B, hB⟩ : ∃ B, B = cmB a s u c d := ⟨_, rfl⟩
  have hBl : B.length = len + 5 := by rw [hB, cmB_len, HL.out]
  have hBf : ([[y, s, u], N, d] : List (List Nat)).flatten = B := by rw [hB, hy, hN]; simp [cmB]
  obtain ⟨M, hM⟩ : ∃ M, M = len + 5 := ⟨_, rfl⟩
  rw [← hM] at hBl
  have HB := Lib.hid hB
  have HBL := Lib.hid hBl
  have HBF := Lib.hid hBf
  have HM := Lib.hid hM
  have HN := Lib.hid hN
  have HNL := Lib.hid hNl
  have hy2 : y < 256 := by omega
  clear hB hBl hBf hM hN hNl hy
  go_enter Try.func25, Try.ntmps25
  go_wp2_with fail
  have hc1 := heap_alloc_new w (.cells #[.int .u8 (a : Nat), .int .u8 (s : Nat), .int .u8 (u : Nat), .int .u16 (c : Nat), .slice x len cap] 45)
  have hb1 : Below w.heap.size w (w.alloc (.cells #[.int .u8 (a : Nat), .int .u8 (s : Nat), .int .u8 (u : Nat), .int .u16 (c : Nat), .slice x len cap] 45)) := by repeat' (first | (with_reducible exact Below.refl _ _) | (with_reducible assumption) | (with_reducible refine Below.setCell ?_ ?_ _) | (with_reducible refine Below.alloc ?_ ?_ _) | (with_reducible refine Below.drew ?_) | (with_reducible refine Below.drawsN ?_ _) | go_size)
  obtain ⟨w1, hw1⟩ : ∃ w1, w1 = w.alloc (.cells #[.int .u8 (a : Nat), .int .u8 (s : Nat), .int .u8 (u : Nat), .int .u16 (c : Nat), .slice x len cap] 45) := ⟨_, rfl⟩
  rw [← hw1] at hc1 hb1 ⊢
  have hz1 : w1.heap.size = w.heap.size + 1 := by rw [hw1]; simp
  have d0 := cell_of_row w1 w.heap.size 0 _ _ _ hc1
  have d1 := cell_of_row w1 w.heap.size 1 _ _ _ hc1
  have d2 := cell_of_row w1 w.heap.size 2 _ _ _ hc1
  have d3 := cell_of_row w1 w.heap.size 3 _ _ _ hc1
  have d4 := cell_of_row w1 w.heap.size 4 _ _ _ hc1
  have HR1 := Lib.hid (HR.out.below' hb1 hn)
  have HB1 := Lib.hid hb1
  clear hw1 hc1 hb1
  obtain ⟨I, W, hne, hWI, hIW⟩ := Go.Mix.family (fun v => Below w1.heap.size w1 v) (Below.refl _ _)
  have HJ := Lib.hid hIW
  have HW := Lib.hid hWI
  clear hWI hIW
  refine Go.Flo.wp_region (fun w' => ∃ i, w' = W i) 17 [SpB [y, s, u], SpB N, SpRows 0 [[y, s, u], N, d] 23, SpO w.heap.size B] (by kernel_rfl) (by kernel_rfl) (by decide) (by rintro _ w' ⟨i, rfl⟩ hb; exact HJ.out _ ((HW.out i).trans (hb.mono (HW.out i).size))) (HJ.out _ (Below.refl _ _).drew) ?_
  simp only [Go.Flo.pair, Go.Mix.calm, List.take, List.drop, if_true, Bool.false_eq_true, if_false, Nat.reduceAdd, Nat.reduceSub]
  have k0 : ∀ i, (W i).cell? ⟨w.heap.size, 0, none⟩ = some (.int .u8 (a : Nat)) := fun i => ((HW.out i).cell (p := ⟨w.heap.size, 0, none⟩) (show w.heap.size < _ by omega)).trans d0
  have k1 : ∀ i, (W i).cell? ⟨w.heap.size, 1, none⟩ = some (.int .u8 (s : Nat)) := fun i => ((HW.out i).cell (p := ⟨w.heap.size, 1, none⟩) (show w.heap.size < _ by omega)).trans d1
  have k2 : ∀ i, (W i).cell? ⟨w.heap.size, 2, none⟩ = some (.int .u8 (u : Nat)) := fun i => ((HW.out i).cell (p := ⟨w.heap.size, 2, none⟩) (show w.heap.size < _ by omega)).trans d2
  have k3 : ∀ i, (W i).cell? ⟨w.heap.size, 3, none⟩ = some (.int .u16 (c : Nat)) := fun i => ((HW.out i).cell (p := ⟨w.heap.size, 3, none⟩) (show w.heap.size < _ by omega)).trans d3
  have k4 : ∀ i, (W i).cell? ⟨w.heap.size, 4, none⟩ = some (.slice x len cap) := fun i => ((HW.out i).cell (p := ⟨w.heap.size, 4, none⟩) (show w.heap.size < _ by omega)).trans d4
  clear d0 d1 d2 d3 d4
  (repeat (first | (refine Go.Flo.fw_calm rfl ?_ (fun K hK => ?_); (first | exact Go.Mix.wanted_none rfl | exact Go.Mix.wanted_tt rfl rfl rfl | exact Go.Mix.wanted_ff rfl rfl rfl); go_big_quiet_op; refine hK _ ?_; clear hK K) | (refine Go.Flo.fw_skip ?_ (fun K hK => ?_); (first | exact Go.Mix.wanted_tf rfl rfl rfl | exact Go.Mix.wanted_ft rfl rfl rfl); go_simp; refine hK _ ?_; clear hK K) | (refine Go.Flo.fw_any rfl ?_ (fun K hK => ?_); (first | exact Go.Mix.wanted_none rfl | exact Go.Mix.wanted_tt rfl rfl rfl | exact Go.Mix.wanted_ff rfl rfl rfl); go_simp; (try (go_ints; try go_simp)); refine hK _ ?_; clear hK K)))
  refine Go.Flo.fw_loud rfl ?_ rfl (by simp) (fun wv hwv hav K hK => ?_) (fun v hv K hK => ?_)
  · (first | exact Go.Mix.wanted_none rfl | exact Go.Mix.wanted_tt rfl rfl rfl | exact Go.Mix.wanted_ff rfl rfl rfl)
  · obtain ⟨iv, rfl⟩ := hwv
    have hbv := HW.out iv
    (first | go_big_op | go_simp)
    refine hK _ _ (owes_lit rfl (by decide) rfl)
  obtain ⟨b1, q1, rfl⟩ := ex_B hv
  go_simp
  refine hK _ ?_
  clear hK K hv
  (repeat (first | (refine Go.Flo.fw_calm rfl ?_ (fun K hK => ?_); (first | exact Go.Mix.wanted_none rfl | exact Go.Mix.wanted_tt rfl rfl rfl | exact Go.Mix.wanted_ff rfl rfl rfl); go_big_quiet_op; refine hK _ ?_; clear hK K) | (refine Go.Flo.fw_skip ?_ (fun K hK => ?_); (first | exact Go.Mix.wanted_tf rfl rfl rfl | exact Go.Mix.wanted_ft rfl rfl rfl); go_simp; refine hK _ ?_; clear hK K) | (refine Go.Flo.fw_any rfl ?_ (fun K hK => ?_); (first | exact Go.Mix.wanted_none rfl | exact Go.Mix.wanted_tt rfl rfl rfl | exact Go.Mix.wanted_ff rfl rfl rfl); go_simp; (try (go_ints; try go_simp)); refine hK _ ?_; clear hK K)))
  refine Go.Flo.fw_loud rfl ?_ rfl (by simp) (fun wv hwv hav K hK => ?_) (fun v hv K hK => ?_)
  · (first | exact Go.Mix.wanted_none rfl | exact Go.Mix.wanted_tt rfl rfl rfl | exact Go.Mix.wanted_ff rfl rfl rfl)
  · obtain ⟨iv, rfl⟩ := hwv
    have hbv := HW.out iv
    (first | go_big_op | go_simp)
    go_at_call 38
    refine (Num_z _ c 2 _ rfl (by omega) (by decide)).mono ?_
    rintro e w' ⟨b2, q2, rfl, hown, hbb⟩
    rw [← HN.out] at hown
    exact hK _ _ (owes_B HNL.out rfl hbb hown)
  obtain ⟨b2, q2, rfl⟩ := ex_B hv
  rw [HNL.out]
  go_simp
  refine hK _ ?_
  clear hK K hv
  (repeat (first | (refine Go.Flo.fw_calm rfl ?_ (fun K hK => ?_); (first | exact Go.Mix.wanted_none rfl | exact Go.Mix.wanted_tt rfl rfl rfl | exact Go.Mix.wanted_ff rfl rfl rfl); go_big_quiet_op; refine hK _ ?_; clear hK K) | (refine Go.Flo.fw_skip ?_ (fun K hK => ?_); (first | exact Go.Mix.wanted_tf rfl rfl rfl | exact Go.Mix.wanted_ft rfl rfl rfl); go_simp; refine hK _ ?_; clear hK K) | (refine Go.Flo.fw_any rfl ?_ (fun K hK => ?_); (first | exact Go.Mix.wanted_none rfl | exact Go.Mix.wanted_tt rfl rfl rfl | exact Go.Mix.wanted_ff rfl rfl rfl); go_simp; (try (go_ints; try go_simp)); refine hK _ ?_; clear hK K)))
  refine Go.Flo.fw_loud rfl ?_ rfl (by simp) (fun wv hwv hav K hK => ?_) (fun v hv K hK => ?_)
  · (first | exact Go.Mix.wanted_none rfl | exact Go.Mix.wanted_tt rfl rfl rfl | exact Go.Mix.wanted_ff rfl rfl rfl)
  · obtain ⟨iv, rfl⟩ := hwv
    have hbv := HW.out iv
    (first | go_big_op | go_simp)
    have f1 := hav 15 (by decide +kernel)
    iterate 6 (replace f1 := f1.1)
    have f2 := hav 19 (by decide +kernel)
    iterate 2 (replace f2 := f2.1)
    have s1 := says_B (f1.2 rfl).1
    have s2 := says_B (f2.2 rfl).1
    have s3 := (HR1.out.below' hbv (by omega)).mono (show n ≤ (W iv).heap.size by have := hbv.size; omega)
    try rw [← HNL.out] at s2
    rw [← HL.out] at s3
    refine hK _ _ (owes_rows (at3 b1 b2 x) (at3 q1 q2 cap) (Nat.zero_le _) rfl ?_ (all3 s1 s2 s3))
    simp [rowsC, at3, List.range_succ, HNL.out, HL.out]
  obtain ⟨g6, rfl⟩ := ex_rows hv
  go_simp
  refine hK _ ?_
  clear hK K hv
  (repeat (first | (refine Go.Flo.fw_calm rfl ?_ (fun K hK => ?_); (first | exact Go.Mix.wanted_none rfl | exact Go.Mix.wanted_tt rfl rfl rfl | exact Go.Mix.wanted_ff rfl rfl rfl); go_big_quiet_op; refine hK _ ?_; clear hK K) | (refine Go.Flo.fw_skip ?_ (fun K hK => ?_); (first | exact Go.Mix.wanted_tf rfl rfl rfl | exact Go.Mix.wanted_ft rfl rfl rfl); go_simp; refine hK _ ?_; clear hK K) | (refine Go.Flo.fw_any rfl ?_ (fun K hK => ?_); (first | exact Go.Mix.wanted_none rfl | exact Go.Mix.wanted_tt rfl rfl rfl | exact Go.Mix.wanted_ff rfl rfl rfl); go_simp; (try (go_ints; try go_simp)); refine hK _ ?_; clear hK K)))
  refine Go.Flo.fw_loud rfl ?_ rfl (by simp) (fun wv hwv hav K hK => ?_) (fun v hv K hK => ?_)
  · (first | exact Go.Mix.wanted_none rfl | exact Go.Mix.wanted_tt rfl rfl rfl | exact Go.Mix.wanted_ff rfl rfl rfl)
  · obtain ⟨iv, rfl⟩ := hwv
    have hbv := HW.out iv
    (first | go_big_op | go_simp)
    have s4 := ((hav 22 (by decide +kernel)).2 rfl).1
    go_at_call 18
    refine (JoinRows s4 (by simp) (by rw [HBF.out, HBL.out]; have := HM.out; omega)).mono ?_
    rintro e w' ⟨v, rfl, hown, hbb⟩
    rw [HBF.out] at hown
    exact hK _ _ (owes_O rfl rfl hbb hown (by have := hbv.size; omega))
  obtain ⟨a8, c8, rfl⟩ := ex_O hv
  rw [HBL.out]
  go_simp
  refine hK _ ?_
  clear hK K hv
  (repeat (first | (refine Go.Flo.fw_calm rfl ?_ (fun K hK => ?_); (first | exact Go.Mix.wanted_none rfl | exact Go.Mix.wanted_tt rfl rfl rfl | exact Go.Mix.wanted_ff rfl rfl rfl); go_big_quiet_op; refine hK _ ?_; clear hK K) | (refine Go.Flo.fw_skip ?_ (fun K hK => ?_); (first | exact Go.Mix.wanted_tf rfl rfl rfl | exact Go.Mix.wanted_ft rfl rfl rfl); go_simp; refine hK _ ?_; clear hK K) | (refine Go.Flo.fw_any rfl ?_ (fun K hK => ?_); (first | exact Go.Mix.wanted_none rfl | exact Go.Mix.wanted_tt rfl rfl rfl | exact Go.Mix.wanted_ff rfl rfl rfl); go_simp; (try (go_ints; try go_simp)); refine hK _ ?_; clear hK K)))
  refine Go.Flo.fw_nil ?_
  intro w4 hww4 hfw4 huw4
  refine Go.Flo.tw_nil ?_
  obtain ⟨iend, hiend⟩ := hww4
  have hbw4 := HW.out iend
  rw [← hiend] at hbw4
  clear hiend iend huw4
  have hsays : w4.ownsRow w.heap.size 5 1 (.slice a8 B.length c8) B.length (bl B) := ((hfw4 (some 23)).1.2 rfl).1
  clear hfw4 HJ HW hne k0 k1 k2 k3 k4
  clear W I
  rw [HBL.out] at hsays
  have hB4 := HB1.out.trans (hbw4.mono HB1.out.size)
  by_cases hL : 195 < len
  · have HE := Lib.hid (show cmBad a len = 4 by unfold cmBad; rw [if_neg hA, if_pos hL])
    have hM2 : 200 < M := by have := HM.out; omega
    go_wp2
    go_ret2
    exact ⟨hB4, .inl ⟨by rw [HE.out]; decide, by rw [HE.out]; rfl⟩⟩
  · have HE := Lib.hid (show cmBad a len = 0 by unfold cmBad; rw [if_neg hA, if_neg hL])
    have hM2 : ¬ 200 < M := by have := HM.out; omega
    go_wp2
    go_ret2
    refine ⟨hB4, .inr ⟨HE.out, _, rfl, ?_⟩⟩
    rw [← HB.out, ← HM.out]
    exact hsays
set_option maxRecDepth 100000 in
set_option maxHeartbeats 4000000 in
theorem Told_any (s u c t : Nat) (x : Option Addr) (len cap n : Nat) (d : List Nat) (w : World) (hs : s < 256) (hu : u < 256) (hc : c < 65536) (ht : t < 4294967296) (hl : d.length = len) (hn : n ≤ w.heap.size) (hr : Rd n w x len cap (bv d)) (hm : len ≤ 1000000) :
    Calls Try.prog 34 #[.agg #[.int .u8 (s : Nat), .int .u8 (u : Nat), .int .u16 (c : Nat), .int .u32 (t : Nat), .slice x len cap]] w (RpTold w s u c t len d) := by
  have h1 := hr.le
  have h2 := hr.top
  unfold maxLen at h2
  have HR := Lib.hid hr
  have HL := Lib.hid hl
  clear hr hl
  obtain ⟨N, hN⟩ : ∃ N, N = numB c 2 := ⟨_, rfl⟩
  have hNl : N.length = 2 := by rw [hN]; exact numB_len _ _
  obtain ⟨T, hT⟩ : ∃ T, T = numB t 4 := ⟨_, rfl⟩
  have hTl : T.length = 4 := by rw [hT]; exact numB_len _ _
  obtain ⟨B, hB⟩ : ∃ B, B = rpB s u c t d := ⟨_, rfl⟩
  have hBl : B.length = len + 11 := by rw [hB, rpB_len, HL.out]
  have hBf : ([[32, s, u], N, [0, 0], T, d] : List (List Nat)).flatten = B := by rw [hB, hN, hT]; simp [rpB]
  obtain ⟨M, hM⟩ : ∃ M, M = len + 11 := ⟨_, rfl⟩
  rw [← hM] at hBl
  have HB := Lib.hid hB
  have HBL := Lib.hid hBl
  have HBF := Lib.hid hBf
  have HM := Lib.hid hM
  have HN := Lib.hid hN
  have HNL := Lib.hid hNl
  have HT := Lib.hid hT
  have HTL := Lib.hid hTl
  clear hB hBl hBf hM hN hNl hT hTl
  go_enter Try.func34, Try.ntmps34
  go_wp2_with fail
  have hc1 := heap_alloc_new w (.cells #[.int .u8 (s : Nat), .int .u8 (u : Nat), .int .u16 (c : Nat), .int .u32 (t : Nat), .slice x len cap] 61)
  have hb1 : Below w.heap.size w (w.alloc (.cells #[.int .u8 (s : Nat), .int .u8 (u : Nat), .int .u16 (c : Nat), .int .u32 (t : Nat), .slice x len cap] 61)) := by repeat' (first | (with_reducible exact Below.refl _ _) | (with_reducible assumption) | (with_reducible refine Below.setCell ?_ ?_ _) | (with_reducible refine Below.alloc ?_ ?_ _) | (with_reducible refine Below.drew ?_) | (with_reducible refine Below.drawsN ?_ _) | go_size)
  obtain ⟨w1, hw1⟩ : ∃ w1, w1 = w.alloc (.cells #[.int .u8 (s : Nat), .int .u8 (u : Nat), .int .u16 (c : Nat), .int .u32 (t : Nat), .slice x len cap] 61) := ⟨_, rfl⟩
  rw [← hw1] at hc1 hb1 ⊢
  have hz1 : w1.heap.size = w.heap.size + 1 := by rw [hw1]; simp
  have d0 := cell_of_row w1 w.heap.size 0 _ _ _ hc1
  have d1 := cell_of_row w1 w.heap.size 1 _ _ _ hc1
  have d2 := cell_of_row w1 w.heap.size 2 _ _ _ hc1
  have d3 := cell_of_row w1 w.heap.size 3 _ _ _ hc1
  have d4 := cell_of_row w1 w.heap.size 4 _ _ _ hc1
  have HR1 := Lib.hid (HR.out.below' hb1 hn)
  have HB1 := Lib.hid hb1
  clear hw1 hc1 hb1
  obtain ⟨I, W, hne, hWI, hIW⟩ := Go.Mix.family (fun v => Below w1.heap.size w1 v) (Below.refl _ _)
  have HJ := Lib.hid hIW
  have HW := Lib.hid hWI
  clear hWI hIW
  refine Go.Flo.wp_region (fun w' => ∃ i, w' = W i) 19 [SpB [32, s, u], SpB N, SpB [0, 0], SpB T, SpRows 0 [[32, s, u], N, [0, 0], T, d] 23, SpO w.heap.size B] (by kernel_rfl) (by kernel_rfl) (by decide) (by rintro _ w' ⟨i, rfl⟩ hb; exact HJ.out _ ((HW.out i).trans (hb.mono (HW.out i).size))) (HJ.out _ (Below.refl _ _).drew) ?_
  simp only [Go.Flo.pair, Go.Mix.calm, List.take, List.drop, if_true, Bool.false_eq_true, if_false, Nat.reduceAdd, Nat.reduceSub]
  have k0 : ∀ i, (W i).cell? ⟨w.heap.size, 0, none⟩ = some (.int .u8 (s : Nat)) := fun i => ((HW.out i).cell (p := ⟨w.heap.size, 0, none⟩) (show w.heap.size < _ by omega)).trans d0
  have k1 : ∀ i, (W i).cell? ⟨w.heap.size, 1, none⟩ = some (.int .u8 (u : Nat)) := fun i => ((HW.out i).cell (p := ⟨w.heap.size, 1, none⟩) (show w.heap.size < _ by omega)).trans d1
  have k2 : ∀ i, (W i).cell? ⟨w.heap.size, 2, none⟩ = some (.int .u16 (c : Nat)) := fun i => ((HW.out i).cell (p := ⟨w.heap.size, 2, none⟩) (show w.heap.size < _ by omega)).trans d2
  have k3 : ∀ i, (W i).cell? ⟨w.heap.size, 3, none⟩ = some (.int .u32 (t : Nat)) := fun i => ((HW.out i).cell (p := ⟨w.heap.size, 3, none⟩) (show w.heap.size < _ by omega)).trans d3
  have k4 : ∀ i, (W i).cell? ⟨w.heap.size, 4, none⟩ = some (.slice x len cap) := fun i => ((HW.out i).cell (p := ⟨w.heap.size, 4, none⟩) (show w.heap.size < _ by omega)).trans d4
  clear d0 d1 d2 d3 d4
  (repeat (first | (refine Go.Flo.fw_calm rfl ?_ (fun K hK => ?_); (first | exact Go.Mix.wanted_none rfl | exact Go.Mix.wanted_tt rfl rfl rfl | exact Go.Mix.wanted_ff rfl rfl rfl); go_big_quiet_op; refine hK _ ?_; clear hK K) | (refine Go.Flo.fw_skip ?_ (fun K hK => ?_); (first | exact Go.Mix.wanted_tf rfl rfl rfl | exact Go.Mix.wanted_ft rfl rfl rfl); go_simp; refine hK _ ?_; clear hK K) | (refine Go.Flo.fw_any rfl ?_ (fun K hK => ?_); (first | exact Go.Mix.wanted_none rfl | exact Go.Mix.wanted_tt rfl rfl rfl | exact Go.Mix.wanted_ff rfl rfl rfl); go_simp; (try (go_ints; try go_simp)); refine hK _ ?_; clear hK K)))
  refine Go.Flo.fw_loud rfl ?_ rfl (by simp) (fun wv hwv hav K hK => ?_) (fun v hv K hK => ?_)
  · (first | exact Go.Mix.wanted_none rfl | exact Go.Mix.wanted_tt rfl rfl rfl | exact Go.Mix.wanted_ff rfl rfl rfl)
  · obtain ⟨iv, rfl⟩ := hwv
    have hbv := HW.out iv
    (first | go_big_op | go_simp)
    refine hK _ _ (owes_lit rfl (by decide) rfl)
  obtain ⟨b1, q1, rfl⟩ := ex_B hv
  go_simp
  refine hK _ ?_
  clear hK K hv
  (repeat (first | (refine Go.Flo.fw_calm rfl ?_ (fun K hK => ?_); (first | exact Go.Mix.wanted_none rfl | exact Go.Mix.wanted_tt rfl rfl rfl | exact Go.Mix.wanted_ff rfl rfl rfl); go_big_quiet_op; refine hK _ ?_; clear hK K) | (refine Go.Flo.fw_skip ?_ (fun K hK => ?_); (first | exact Go.Mix.wanted_tf rfl rfl rfl | exact Go.Mix.wanted_ft rfl rfl rfl); go_simp; refine hK _ ?_; clear hK K) | (refine Go.Flo.fw_any rfl ?_ (fun K hK => ?_); (first | exact Go.Mix.wanted_none rfl | exact Go.Mix.wanted_tt rfl rfl rfl | exact Go.Mix.wanted_ff rfl rfl rfl); go_simp; (try (go_ints; try go_simp)); refine hK _ ?_; clear hK K)))
  refine Go.Flo.fw_loud rfl ?_ rfl (by simp) (fun wv hwv hav K hK => ?_) (fun v hv K hK => ?_)
  · (first | exact Go.Mix.wanted_none rfl | exact Go.Mix.wanted_tt rfl rfl rfl | exact Go.Mix.wanted_ff rfl rfl rfl)
  · obtain ⟨iv, rfl⟩ := hwv
    have hbv := HW.out iv
    (first | go_big_op | go_simp)
    go_at_call 38
    refine (Num_z _ c 2 _ rfl (by omega) (by decide)).mono ?_
    rintro e w' ⟨b2, q2, rfl, hown, hbb⟩
    rw [← HN.out] at hown
    exact hK _ _ (owes_B HNL.out rfl hbb hown)
  obtain ⟨b2, q2, rfl⟩ := ex_B hv
  rw [HNL.out]
  go_simp
  refine hK _ ?_
  clear hK K hv
  (repeat (first | (refine Go.Flo.fw_calm rfl ?_ (fun K hK => ?_); (first | exact Go.Mix.wanted_none rfl | exact Go.Mix.wanted_tt rfl rfl rfl | exact Go.Mix.wanted_ff rfl rfl rfl); go_big_quiet_op; refine hK _ ?_; clear hK K) | (refine Go.Flo.fw_skip ?_ (fun K hK => ?_); (first | exact Go.Mix.wanted_tf rfl rfl rfl | exact Go.Mix.wanted_ft rfl rfl rfl); go_simp; refine hK _ ?_; clear hK K) | (refine Go.Flo.fw_any rfl ?_ (fun K hK => ?_); (first | exact Go.Mix.wanted_none rfl | exact Go.Mix.wanted_tt rfl rfl rfl | exact Go.Mix.wanted_ff rfl rfl rfl); go_simp; (try (go_ints; try go_simp)); refine hK _ ?_; clear hK K)))
  refine Go.Flo.fw_loud rfl ?_ rfl (by simp) (fun wv hwv hav K hK => ?_) (fun v hv K hK => ?_)
  · (first | exact Go.Mix.wanted_none rfl | exact Go.Mix.wanted_tt rfl rfl rfl | exact Go.Mix.wanted_ff rfl rfl rfl)
  · obtain ⟨iv, rfl⟩ := hwv
    have hbv := HW.out iv
    (first | go_big_op | go_simp)
    refine hK _ _ (owes_lit rfl (by decide) rfl)
  obtain ⟨b3, q3, rfl⟩ := ex_B hv
  go_simp
  refine hK _ ?_
  clear hK K hv
  (repeat (first | (refine Go.Flo.fw_calm rfl ?_ (fun K hK => ?_); (first | exact Go.Mix.wanted_none rfl | exact Go.Mix.wanted_tt rfl rfl rfl | exact Go.Mix.wanted_ff rfl rfl rfl); go_big_quiet_op; refine hK _ ?_; clear hK K) | (refine Go.Flo.fw_skip ?_ (fun K hK => ?_); (first | exact Go.Mix.wanted_tf rfl rfl rfl | exact Go.Mix.wanted_ft rfl rfl rfl); go_simp; refine hK _ ?_; clear hK K) | (refine Go.Flo.fw_any rfl ?_ (fun K hK => ?_); (first | exact Go.Mix.wanted_none rfl | exact Go.Mix.wanted_tt rfl rfl rfl | exact Go.Mix.wanted_ff rfl rfl rfl); go_simp; (try (go_ints; try go_simp)); refine hK _ ?_; clear hK K)))
  refine Go.Flo.fw_loud rfl ?_ rfl (by simp) (fun wv hwv hav K hK => ?_) (fun v hv K hK => ?_)
  · (first | exact Go.Mix.wanted_none rfl | exact Go.Mix.wanted_tt rfl rfl rfl | exact Go.Mix.wanted_ff rfl rfl rfl)
  · obtain ⟨iv, rfl⟩ := hwv
    have hbv := HW.out iv
    (first | go_big_op | go_simp)
    go_at_call 38
    refine (Num_z _ t 4 _ rfl (by omega) (by decide)).mono ?_
    rintro e w' ⟨b4, q4, rfl, hown, hbb⟩
    rw [← HT.out] at hown
    exact hK _ _ (owes_B HTL.out rfl hbb hown)
  obtain ⟨b4, q4, rfl⟩ := ex_B hv
  rw [HTL.out]
  go_simp
  refine hK _ ?_
  clear hK K hv
  (repeat (first | (refine Go.Flo.fw_calm rfl ?_ (fun K hK => ?_); (first | exact Go.Mix.wanted_none rfl | exact Go.Mix.wanted_tt rfl rfl rfl | exact Go.Mix.wanted_ff rfl rfl rfl); go_big_quiet_op; refine hK _ ?_; clear hK K) | (refine Go.Flo.fw_skip ?_ (fun K hK => ?_); (first | exact Go.Mix.wanted_tf rfl rfl rfl | exact Go.Mix.wanted_ft rfl rfl rfl); go_simp; refine hK _ ?_; clear hK K) | (refine Go.Flo.fw_any rfl ?_ (fun K hK => ?_); (first | exact Go.Mix.wanted_none rfl | exact Go.Mix.wanted_tt rfl rfl rfl | exact Go.Mix.wanted_ff rfl rfl rfl); go_simp; (try (go_ints; try go_simp)); refine hK _ ?_; clear hK K)))
  refine Go.Flo.fw_loud rfl ?_ rfl (by simp) (fun wv hwv hav K hK => ?_) (fun v hv K hK => ?_)
  · (first | exact Go.Mix.wanted_none rfl | exact Go.Mix.wanted_tt rfl rfl rfl | exact Go.Mix.wanted_ff rfl rfl rfl)
  · obtain ⟨iv, rfl⟩ := hwv
    have hbv := HW.out iv
    (first | go_big_op | go_simp)
    have f1 := hav 9 (by decide +kernel)
    iterate 11 (replace f1 := f1.1)
    have f2 := hav 13 (by decide +kernel)
    iterate 7 (replace f2 := f2.1)
    have f3 := hav 14 (by decide +kernel)
    iterate 6 (replace f3 := f3.1)
    have f4 := hav 18 (by decide +kernel)
    iterate 2 (replace f4 := f4.1)
    have s1 := says_B (f1.2 rfl).1
    have s2 := says_B (f2.2 rfl).1
    have s3 := says_B (f3.2 rfl).1
    have s4 := says_B (f4.2 rfl).1
    have s5 := (HR1.out.below' hbv (by omega)).mono (show n ≤ (W iv).heap.size by have := hbv.size; omega)
    try rw [← HNL.out] at s2
    try rw [← HTL.out] at s4
    rw [← HL.out] at s5
    refine hK _ _ (owes_rows (at5 b1 b2 b3 b4 x) (at5 q1 q2 q3 q4 cap) (Nat.zero_le _) rfl ?_ (all5 s1 s2 s3 s4 s5))
    simp [rowsC, at5, List.range_succ, HNL.out, HTL.out, HL.out]
  obtain ⟨g6, rfl⟩ := ex_rows hv
  go_simp
  refine hK _ ?_
  clear hK K hv
  (repeat (first | (refine Go.Flo.fw_calm rfl ?_ (fun K hK => ?_); (first | exact Go.Mix.wanted_none rfl | exact Go.Mix.wanted_tt rfl rfl rfl | exact Go.Mix.wanted_ff rfl rfl rfl); go_big_quiet_op; refine hK _ ?_; clear hK K) | (refine Go.Flo.fw_skip ?_ (fun K hK => ?_); (first | exact Go.Mix.wanted_tf rfl rfl rfl | exact Go.Mix.wanted_ft rfl rfl rfl); go_simp; refine hK _ ?_; clear hK K) | (refine Go.Flo.fw_any rfl ?_ (fun K hK => ?_); (first | exact Go.Mix.wanted_none rfl | exact Go.Mix.wanted_tt rfl rfl rfl | exact Go.Mix.wanted_ff rfl rfl rfl); go_simp; (try (go_ints; try go_simp)); refine hK _ ?_; clear hK K)))
  refine Go.Flo.fw_loud rfl ?_ rfl (by simp) (fun wv hwv hav K hK => ?_) (fun v hv K hK => ?_)
  · (first | exact Go.Mix.wanted_none rfl | exact Go.Mix.wanted_tt rfl rfl rfl | exact Go.Mix.wanted_ff rfl rfl rfl)
  · obtain ⟨iv, rfl⟩ := hwv
    have hbv := HW.out iv
    (first | go_big_op | go_simp)
    have s4 := ((hav 21 (by decide +kernel)).2 rfl).1
    go_at_call 18
    refine (JoinRows s4 (by simp) (by rw [HBF.out, HBL.out]; have := HM.out; omega)).mono ?_
    rintro e w' ⟨v, rfl, hown, hbb⟩
    rw [HBF.out] at hown
    exact hK _ _ (owes_O rfl rfl hbb hown (by have := hbv.size; omega))
  obtain ⟨a8, c8, rfl⟩ := ex_O hv
  rw [HBL.out]
  go_simp
  refine hK _ ?_
  clear hK K hv
  (repeat (first | (refine Go.Flo.fw_calm rfl ?_ (fun K hK => ?_); (first | exact Go.Mix.wanted_none rfl | exact Go.Mix.wanted_tt rfl rfl rfl | exact Go.Mix.wanted_ff rfl rfl rfl); go_big_quiet_op; refine hK _ ?_; clear hK K) | (refine Go.Flo.fw_skip ?_ (fun K hK => ?_); (first | exact Go.Mix.wanted_tf rfl rfl rfl | exact Go.Mix.wanted_ft rfl rfl rfl); go_simp; refine hK _ ?_; clear hK K) | (refine Go.Flo.fw_any rfl ?_ (fun K hK => ?_); (first | exact Go.Mix.wanted_none rfl | exact Go.Mix.wanted_tt rfl rfl rfl | exact Go.Mix.wanted_ff rfl rfl rfl); go_simp; (try (go_ints; try go_simp)); refine hK _ ?_; clear hK K)))
  refine Go.Flo.fw_nil ?_
  intro w4 hww4 hfw4 huw4
  refine Go.Flo.tw_nil ?_
  obtain ⟨iend, hiend⟩ := hww4
  have hbw4 := HW.out iend
  rw [← hiend] at hbw4
  clear hiend iend huw4
  have hsays : w4.ownsRow w.heap.size 5 1 (.slice a8 B.length c8) B.length (bl B) := ((hfw4 (some 22)).1.2 rfl).1
  clear hfw4 HJ HW hne k0 k1 k2 k3 k4
  clear W I
  rw [HBL.out] at hsays
  have hB4 := HB1.out.trans (hbw4.mono HB1.out.size)
  by_cases hL : 189 < len
  · have HE := Lib.hid (show rpBad len = 4 by unfold rpBad; rw [if_pos hL])
    have hM2 : 200 < M := by have := HM.out; omega
    go_wp2
    go_ret2
    exact ⟨hB4, .inl ⟨by rw [HE.out]; decide, by rw [HE.out]; rfl⟩⟩
  · have HE := Lib.hid (show rpBad len = 0 by unfold rpBad; rw [if_neg hL])
    have hM2 : ¬ 200 < M := by have := HM.out; omega
    go_wp2
    go_ret2
    refine ⟨hB4, .inr ⟨HE.out, _, rfl, ?_⟩⟩
    rw [← HB.out, ← HM.out]
    exact hsays
end Go.Proofs.Ytfolebogfapmaaa
