/- Layer 8: the document's own bytes of a context; Same. -/
import Derived.Test.YtpgophkegjeheaaCxR
import Derived.Test.YtpgophkegjeheaaPs6
namespace Go.Proofs.Ytpgophkegjeheaa
open Go.RowKit Go.Own
set_option linter.unusedVariables false
set_option linter.unusedSimpArgs false
def at4' {α : Type} (a b c d : α) : Nat → α := fun i => if i = 0 then a else if i = 1 then b else if i = 2 then c else d
theorem all4 {p : Nat → Prop} (h0 : p 0) (h1 : p 1) (h2 : p 2) (h3 : p 3) : ∀ i, i < 4 → p i := fun i hi => by
  have : i = 0 ∨ i = 1 ∨ i = 2 ∨ i = 3 := by omega
  rcases this with rfl | rfl | rfl | rfl
  · exact h0
  · exact h1
  · exact h2
  · exact h3
theorem numB_2 (n : Nat) : numB n 2 = [n / 256 % 256, n % 256] := by simp [numB]
/-- What the six units are laid as. -/
def uuOf (u0 u1 u2 u3 u4 u5 : Nat) : List Nat := [u0, u1, u2, u3, u4, u5]
theorem wrap8_s : ∀ y : Nat, y < 17 → IntKind.i8.wrap (y : Int) = (y : Int) := by decide +kernel
theorem heap_alloc_old' (w : World) (o : Obj) {k : Nat} (h : k < w.heap.size) : (w.alloc o).heap[k]? = w.heap[k]? := Below.heap_alloc w o k h
set_option maxRecDepth 100000 in
set_option maxHeartbeats 8000000 in
theorem rBytes_ex (F I' r0 r1 r2 r3 r4 r5 y0 y1 y2 y3 y4 y5 M N H : Nat) (x : Bool) (w : World) (hF : F < 65536) (hI : I' < 65536) (hN : N < 65536) (hr0 : r0 < 256) (hr1 : r1 < 256) (hr2 : r2 < 256) (hr3 : r3 < 256) (hr4 : r4 < 256) (hr5 : r5 < 256) (hy0 : y0 < 17) (hy1 : y1 < 17) (hy2 : y2 < 17) (hy3 : y3 < 17) (hy4 : y4 < 17) (hy5 : y5 < 17) (hM : M < 256) (hH : H < 256) :
    Calls Try.prog 22 #[.agg #[.int .u16 (⟨F, I', r0, r1, r2, r3, r4, r5, (y0 : Int) - 1, (y1 : Int) - 1, (y2 : Int) - 1, (y3 : Int) - 1, (y4 : Int) - 1, (y5 : Int) - 1, M, N, x, H⟩ : Cx).f, .int .u16 (⟨F, I', r0, r1, r2, r3, r4, r5, (y0 : Int) - 1, (y1 : Int) - 1, (y2 : Int) - 1, (y3 : Int) - 1, (y4 : Int) - 1, (y5 : Int) - 1, M, N, x, H⟩ : Cx).i, .int .u8 (⟨F, I', r0, r1, r2, r3, r4, r5, (y0 : Int) - 1, (y1 : Int) - 1, (y2 : Int) - 1, (y3 : Int) - 1, (y4 : Int) - 1, (y5 : Int) - 1, M, N, x, H⟩ : Cx).r0, .int .u8 (⟨F, I', r0, r1, r2, r3, r4, r5, (y0 : Int) - 1, (y1 : Int) - 1, (y2 : Int) - 1, (y3 : Int) - 1, (y4 : Int) - 1, (y5 : Int) - 1, M, N, x, H⟩ : Cx).r1, .int .u8 (⟨F, I', r0, r1, r2, r3, r4, r5, (y0 : Int) - 1, (y1 : Int) - 1, (y2 : Int) - 1, (y3 : Int) - 1, (y4 : Int) - 1, (y5 : Int) - 1, M, N, x, H⟩ : Cx).r2, .int .u8 (⟨F, I', r0, r1, r2, r3, r4, r5, (y0 : Int) - 1, (y1 : Int) - 1, (y2 : Int) - 1, (y3 : Int) - 1, (y4 : Int) - 1, (y5 : Int) - 1, M, N, x, H⟩ : Cx).r3, .int .u8 (⟨F, I', r0, r1, r2, r3, r4, r5, (y0 : Int) - 1, (y1 : Int) - 1, (y2 : Int) - 1, (y3 : Int) - 1, (y4 : Int) - 1, (y5 : Int) - 1, M, N, x, H⟩ : Cx).r4, .int .u8 (⟨F, I', r0, r1, r2, r3, r4, r5, (y0 : Int) - 1, (y1 : Int) - 1, (y2 : Int) - 1, (y3 : Int) - 1, (y4 : Int) - 1, (y5 : Int) - 1, M, N, x, H⟩ : Cx).r5, .int .i8 (⟨F, I', r0, r1, r2, r3, r4, r5, (y0 : Int) - 1, (y1 : Int) - 1, (y2 : Int) - 1, (y3 : Int) - 1, (y4 : Int) - 1, (y5 : Int) - 1, M, N, x, H⟩ : Cx).c0, .int .i8 (⟨F, I', r0, r1, r2, r3, r4, r5, (y0 : Int) - 1, (y1 : Int) - 1, (y2 : Int) - 1, (y3 : Int) - 1, (y4 : Int) - 1, (y5 : Int) - 1, M, N, x, H⟩ : Cx).c1, .int .i8 (⟨F, I', r0, r1, r2, r3, r4, r5, (y0 : Int) - 1, (y1 : Int) - 1, (y2 : Int) - 1, (y3 : Int) - 1, (y4 : Int) - 1, (y5 : Int) - 1, M, N, x, H⟩ : Cx).c2, .int .i8 (⟨F, I', r0, r1, r2, r3, r4, r5, (y0 : Int) - 1, (y1 : Int) - 1, (y2 : Int) - 1, (y3 : Int) - 1, (y4 : Int) - 1, (y5 : Int) - 1, M, N, x, H⟩ : Cx).c3, .int .i8 (⟨F, I', r0, r1, r2, r3, r4, r5, (y0 : Int) - 1, (y1 : Int) - 1, (y2 : Int) - 1, (y3 : Int) - 1, (y4 : Int) - 1, (y5 : Int) - 1, M, N, x, H⟩ : Cx).c4, .int .i8 (⟨F, I', r0, r1, r2, r3, r4, r5, (y0 : Int) - 1, (y1 : Int) - 1, (y2 : Int) - 1, (y3 : Int) - 1, (y4 : Int) - 1, (y5 : Int) - 1, M, N, x, H⟩ : Cx).c5, .int .u8 (⟨F, I', r0, r1, r2, r3, r4, r5, (y0 : Int) - 1, (y1 : Int) - 1, (y2 : Int) - 1, (y3 : Int) - 1, (y4 : Int) - 1, (y5 : Int) - 1, M, N, x, H⟩ : Cx).m, .int .u16 (⟨F, I', r0, r1, r2, r3, r4, r5, (y0 : Int) - 1, (y1 : Int) - 1, (y2 : Int) - 1, (y3 : Int) - 1, (y4 : Int) - 1, (y5 : Int) - 1, M, N, x, H⟩ : Cx).n, .bool (⟨F, I', r0, r1, r2, r3, r4, r5, (y0 : Int) - 1, (y1 : Int) - 1, (y2 : Int) - 1, (y3 : Int) - 1, (y4 : Int) - 1, (y5 : Int) - 1, M, N, x, H⟩ : Cx).x, .int .u8 (⟨F, I', r0, r1, r2, r3, r4, r5, (y0 : Int) - 1, (y1 : Int) - 1, (y2 : Int) - 1, (y3 : Int) - 1, (y4 : Int) - 1, (y5 : Int) - 1, M, N, x, H⟩ : Cx).h]] w fun e w' => ∃ v, e = .returned v ∧ w'.ownsRow w.heap.size 5 1 v 21 (bl ([F / 256, F % 256, I' / 256, I' % 256, r0, r1, r2, r3, r4, r5, y0, y1, y2, y3, y4, y5, M, N / 256, N % 256, if x then 1 else 0, H])) ∧ Below w.heap.size w w' := by
  obtain ⟨i0, hi, hz0, hz1, hz2⟩ := info_parts info_u8
  dsimp only
  have hx := heap_alloc_new w (.cells #[.int .u16 (F : Nat), .int .u16 (I' : Nat), .int .u8 (r0 : Nat), .int .u8 (r1 : Nat), .int .u8 (r2 : Nat), .int .u8 (r3 : Nat), .int .u8 (r4 : Nat), .int .u8 (r5 : Nat), .int .i8 ((y0 : Int) - 1), .int .i8 ((y1 : Int) - 1), .int .i8 ((y2 : Int) - 1), .int .i8 ((y3 : Int) - 1), .int .i8 ((y4 : Int) - 1), .int .i8 ((y5 : Int) - 1), .int .u8 (M : Nat), .int .u16 (N : Nat), .bool x, .int .u8 (H : Nat)] 35)
  have hb : Below w.heap.size w (w.alloc (.cells #[.int .u16 (F : Nat), .int .u16 (I' : Nat), .int .u8 (r0 : Nat), .int .u8 (r1 : Nat), .int .u8 (r2 : Nat), .int .u8 (r3 : Nat), .int .u8 (r4 : Nat), .int .u8 (r5 : Nat), .int .i8 ((y0 : Int) - 1), .int .i8 ((y1 : Int) - 1), .int .i8 ((y2 : Int) - 1), .int .i8 ((y3 : Int) - 1), .int .i8 ((y4 : Int) - 1), .int .i8 ((y5 : Int) - 1), .int .u8 (M : Nat), .int .u16 (N : Nat), .bool x, .int .u8 (H : Nat)] 35)) := (Below.refl _ _).alloc (Nat.le_refl _) _
  go_enter Try.func22, Try.ntmps22
  go_wp2_with fail
  obtain ⟨w1, hw1⟩ : ∃ w1, w1 = w.alloc (.cells #[.int .u16 (F : Nat), .int .u16 (I' : Nat), .int .u8 (r0 : Nat), .int .u8 (r1 : Nat), .int .u8 (r2 : Nat), .int .u8 (r3 : Nat), .int .u8 (r4 : Nat), .int .u8 (r5 : Nat), .int .i8 ((y0 : Int) - 1), .int .i8 ((y1 : Int) - 1), .int .i8 ((y2 : Int) - 1), .int .i8 ((y3 : Int) - 1), .int .i8 ((y4 : Int) - 1), .int .i8 ((y5 : Int) - 1), .int .u8 (M : Nat), .int .u16 (N : Nat), .bool x, .int .u8 (H : Nat)] 35) := ⟨_, rfl⟩
  have hz1w : w1.heap.size = w.heap.size + 1 := by rw [hw1]; simp
  obtain ⟨x0, hx0⟩ : ∃ x0, x0 = w.heap.size := ⟨_, rfl⟩
  rw [← hw1, ← hx0] at hx
  rw [← hw1] at hb
  rw [← hw1, ← hx0]
  have hx0n : x0 < w1.heap.size := by omega
  have hx0w : w.heap.size ≤ x0 := by omega
  have hx1 : x0 < w.heap.size + 1 := by omega
  clear hw1 hx0
  have d0 := cell_of_row w1 x0 0 _ _ _ hx
  have d1 := cell_of_row w1 x0 1 _ _ _ hx
  have hrd : Rd w1.heap.size w1 (some ⟨x0, 2, none⟩) 6 6 (bv [r0, r1, r2, r3, r4, r5]) := ⟨Nat.le_refl _, by decide, fun h => (by cases h), fun _ => ⟨x0, 2, rfl, hx0n, fun i hi => by
    have : i = 0 ∨ i = 1 ∨ i = 2 ∨ i = 3 ∨ i = 4 ∨ i = 5 := by omega
    rcases this with rfl | rfl | rfl | rfl | rfl | rfl <;> exact cell_of_row w1 x0 _ _ _ _ hx⟩⟩
  have HRD := Lib.hid hrd
  have HX1 := Lib.hid hx
  have HB1 := Lib.hid hb
  obtain ⟨NF, hNF⟩ : ∃ L, L = numB F 2 := ⟨_, rfl⟩
  obtain ⟨NI, hNI⟩ : ∃ L, L = numB I' 2 := ⟨_, rfl⟩
  have HNF := Lib.hid hNF
  have HNI := Lib.hid hNI
  have HNFL := Lib.hid (show NF.length = 2 by rw [hNF]; exact numB_len _ _)
  have HNIL := Lib.hid (show NI.length = 2 by rw [hNI]; exact numB_len _ _)
  obtain ⟨B, hB⟩ : ∃ B : List Nat, B = [F / 256, F % 256, I' / 256, I' % 256, r0, r1, r2, r3, r4, r5] := ⟨_, rfl⟩
  have hBf : ([NF, NI, [r0, r1, r2, r3, r4, r5]] : List (List Nat)).flatten = B := by
    rw [hB, hNF, hNI, numB_2, numB_2]
    simp
    omega
  have hBl : B.length = 10 := by rw [hB]; rfl
  have HBF := Lib.hid hBf
  have HBL := Lib.hid hBl
  have HBE := Lib.hid hB
  clear hx hb hrd hNF hNI hBf hBl hB
  obtain ⟨I, W, hne, hWI, hIW⟩ := Go.Mix.family (fun v => Below w1.heap.size w1 v) (Below.refl _ _)
  have HJ := Lib.hid hIW
  have HW := Lib.hid hWI
  clear hWI hIW
  refine Go.Flo.wp_region (fun w' => ∃ i, w' = W i) 13 [SpB NF, SpB NI, SpRows 0 [NF, NI, [r0, r1, r2, r3, r4, r5]] 29, SpO w.heap.size B] (by kernel_rfl) (by kernel_rfl) (by decide) (by rintro _ w' ⟨i, rfl⟩ hb; exact HJ.out _ ((HW.out i).trans (hb.mono (HW.out i).size))) (HJ.out _ (Below.refl _ _).drew) ?_
  simp only [Go.Flo.pair, Go.Mix.calm, List.take, List.drop, if_true, Bool.false_eq_true, if_false, Nat.reduceAdd, Nat.reduceSub]
  have k0 : ∀ i, (W i).cell? ⟨x0, 0, none⟩ = some (.int .u16 (F : Nat)) := fun i => ((HW.out i).cell (p := ⟨x0, 0, none⟩) hx0n).trans d0
  have k1 : ∀ i, (W i).cell? ⟨x0, 1, none⟩ = some (.int .u16 (I' : Nat)) := fun i => ((HW.out i).cell (p := ⟨x0, 1, none⟩) hx0n).trans d1
  clear d0 d1
  (repeat (first | (refine Go.Flo.fw_calm rfl ?_ (fun K hK => ?_); (first | exact Go.Mix.wanted_none rfl | exact Go.Mix.wanted_tt rfl rfl rfl | exact Go.Mix.wanted_ff rfl rfl rfl); go_big_quiet_op; refine hK _ ?_; clear hK K) | (refine Go.Flo.fw_skip ?_ (fun K hK => ?_); (first | exact Go.Mix.wanted_tf rfl rfl rfl | exact Go.Mix.wanted_ft rfl rfl rfl); go_simp; refine hK _ ?_; clear hK K) | (refine Go.Flo.fw_any rfl ?_ (fun K hK => ?_); (first | exact Go.Mix.wanted_none rfl | exact Go.Mix.wanted_tt rfl rfl rfl | exact Go.Mix.wanted_ff rfl rfl rfl); go_simp; (try (go_ints; try go_simp)); refine hK _ ?_; clear hK K)))
  refine Go.Flo.fw_loud rfl ?_ rfl (by simp) (fun wv hwv hav K hK => ?_) (fun v hv K hK => ?_)
  · (first | exact Go.Mix.wanted_none rfl | exact Go.Mix.wanted_tt rfl rfl rfl | exact Go.Mix.wanted_ff rfl rfl rfl)
  · obtain ⟨iv, rfl⟩ := hwv
    have hbv := HW.out iv
    (first | go_big_op | go_simp)
    go_at_call 62
    refine (Num_z _ F 2 _ rfl (by omega) (by decide)).mono ?_
    rintro e w' ⟨b2, q2, rfl, hown, hbb⟩
    rw [← HNF.out] at hown
    exact hK _ _ (owes_B HNFL.out rfl hbb hown)
  obtain ⟨b1, q1, rfl⟩ := ex_B hv
  rw [HNFL.out]
  go_simp
  refine hK _ ?_
  clear hK K hv
  (repeat (first | (refine Go.Flo.fw_calm rfl ?_ (fun K hK => ?_); (first | exact Go.Mix.wanted_none rfl | exact Go.Mix.wanted_tt rfl rfl rfl | exact Go.Mix.wanted_ff rfl rfl rfl); go_big_quiet_op; refine hK _ ?_; clear hK K) | (refine Go.Flo.fw_skip ?_ (fun K hK => ?_); (first | exact Go.Mix.wanted_tf rfl rfl rfl | exact Go.Mix.wanted_ft rfl rfl rfl); go_simp; refine hK _ ?_; clear hK K) | (refine Go.Flo.fw_any rfl ?_ (fun K hK => ?_); (first | exact Go.Mix.wanted_none rfl | exact Go.Mix.wanted_tt rfl rfl rfl | exact Go.Mix.wanted_ff rfl rfl rfl); go_simp; (try (go_ints; try go_simp)); refine hK _ ?_; clear hK K)))
  refine Go.Flo.fw_loud rfl ?_ rfl (by simp) (fun wv hwv hav K hK => ?_) (fun v hv K hK => ?_)
  · (first | exact Go.Mix.wanted_none rfl | exact Go.Mix.wanted_tt rfl rfl rfl | exact Go.Mix.wanted_ff rfl rfl rfl)
  · obtain ⟨iv, rfl⟩ := hwv
    have hbv := HW.out iv
    (first | go_big_op | go_simp)
    go_at_call 62
    refine (Num_z _ I' 2 _ rfl (by omega) (by decide)).mono ?_
    rintro e w' ⟨b2, q2, rfl, hown, hbb⟩
    rw [← HNI.out] at hown
    exact hK _ _ (owes_B HNIL.out rfl hbb hown)
  obtain ⟨b2, q2, rfl⟩ := ex_B hv
  rw [HNIL.out]
  go_simp
  refine hK _ ?_
  clear hK K hv
  (repeat (first | (refine Go.Flo.fw_calm rfl ?_ (fun K hK => ?_); (first | exact Go.Mix.wanted_none rfl | exact Go.Mix.wanted_tt rfl rfl rfl | exact Go.Mix.wanted_ff rfl rfl rfl); go_big_quiet_op; refine hK _ ?_; clear hK K) | (refine Go.Flo.fw_skip ?_ (fun K hK => ?_); (first | exact Go.Mix.wanted_tf rfl rfl rfl | exact Go.Mix.wanted_ft rfl rfl rfl); go_simp; refine hK _ ?_; clear hK K) | (refine Go.Flo.fw_any rfl ?_ (fun K hK => ?_); (first | exact Go.Mix.wanted_none rfl | exact Go.Mix.wanted_tt rfl rfl rfl | exact Go.Mix.wanted_ff rfl rfl rfl); go_simp; (try (go_ints; try go_simp)); refine hK _ ?_; clear hK K)))
  refine Go.Flo.fw_loud rfl ?_ rfl (by simp) (fun wv hwv hav K hK => ?_) (fun v hv K hK => ?_)
  · (first | exact Go.Mix.wanted_none rfl | exact Go.Mix.wanted_tt rfl rfl rfl | exact Go.Mix.wanted_ff rfl rfl rfl)
  · obtain ⟨iv, rfl⟩ := hwv
    have hbv := HW.out iv
    (first | go_big_op | go_simp)
    have f1 := hav 10 (by decide +kernel)
    iterate 6 (replace f1 := f1.1)
    have f2 := hav 14 (by decide +kernel)
    iterate 2 (replace f2 := f2.1)
    have s1 := says_B (f1.2 rfl).1
    have s2 := says_B (f2.2 rfl).1
    have s3 := (HRD.out.below hbv).mono hbv.size
    try rw [← HNFL.out] at s1
    try rw [← HNIL.out] at s2
    refine hK _ _ (owes_rows (at3 b1 b2 (some ⟨x0, 2, none⟩)) (at3 q1 q2 6) (Nat.zero_le _) rfl ?_ (all3 s1 s2 s3))
    simp [rowsC, at3, List.range_succ, HNFL.out, HNIL.out]
  obtain ⟨g6, rfl⟩ := ex_rows hv
  go_simp
  refine hK _ ?_
  clear hK K hv
  (repeat (first | (refine Go.Flo.fw_calm rfl ?_ (fun K hK => ?_); (first | exact Go.Mix.wanted_none rfl | exact Go.Mix.wanted_tt rfl rfl rfl | exact Go.Mix.wanted_ff rfl rfl rfl); go_big_quiet_op; refine hK _ ?_; clear hK K) | (refine Go.Flo.fw_skip ?_ (fun K hK => ?_); (first | exact Go.Mix.wanted_tf rfl rfl rfl | exact Go.Mix.wanted_ft rfl rfl rfl); go_simp; refine hK _ ?_; clear hK K) | (refine Go.Flo.fw_any rfl ?_ (fun K hK => ?_); (first | exact Go.Mix.wanted_none rfl | exact Go.Mix.wanted_tt rfl rfl rfl | exact Go.Mix.wanted_ff rfl rfl rfl); go_simp; (try (go_ints; try go_simp)); refine hK _ ?_; clear hK K)))
  refine Go.Flo.fw_loud rfl ?_ rfl (by simp) (fun wv hwv hav K hK => ?_) (fun v hv K hK => ?_)
  · (first | exact Go.Mix.wanted_none rfl | exact Go.Mix.wanted_tt rfl rfl rfl | exact Go.Mix.wanted_ff rfl rfl rfl)
  · obtain ⟨iv, rfl⟩ := hwv
    have hbv := HW.out iv
    (first | go_big_op | go_simp)
    have s4 := ((hav 17 (by decide +kernel)).2 rfl).1
    go_at_call 23
    refine (JoinRows s4 (by simp) (by rw [HBF.out, HBL.out]; omega)).mono ?_
    rintro e w' ⟨v, rfl, hown, hbb⟩
    rw [HBF.out] at hown
    exact hK _ _ (owes_O rfl rfl hbb hown (by have := hbv.size; omega))
  obtain ⟨a8, c8, rfl⟩ := ex_O hv
  rw [HBL.out]
  go_simp
  refine hK _ ?_
  clear hK K hv
  (repeat (first | (refine Go.Flo.fw_calm rfl ?_ (fun K hK => ?_); (first | exact Go.Mix.wanted_none rfl | exact Go.Mix.wanted_tt rfl rfl rfl | exact Go.Mix.wanted_ff rfl rfl rfl); go_big_quiet_op; refine hK _ ?_; clear hK K) | (refine Go.Flo.fw_skip ?_ (fun K hK => ?_); (first | exact Go.Mix.wanted_tf rfl rfl rfl | exact Go.Mix.wanted_ft rfl rfl rfl); go_simp; refine hK _ ?_; clear hK K) | (refine Go.Flo.fw_any rfl ?_ (fun K hK => ?_); (first | exact Go.Mix.wanted_none rfl | exact Go.Mix.wanted_tt rfl rfl rfl | exact Go.Mix.wanted_ff rfl rfl rfl); go_simp; (try (go_ints; try go_simp)); refine hK _ ?_; clear hK K)))
  refine Go.Flo.fw_nil ?_
  intro w4 hww4 hfw4 huw4
  refine Go.Flo.tw_nil ?_
  obtain ⟨iend, hiend⟩ := hww4
  have hbw4 := HW.out iend
  rw [← hiend] at hbw4
  clear hiend iend huw4
  have hsays : w4.ownsRow w.heap.size 5 1 (.slice a8 B.length c8) B.length (bl B) := ((hfw4 (some 18)).1.2 rfl).1
  clear hfw4 HJ HW hne k0 k1
  clear W I
  rw [HBL.out] at hsays
  have HO4 := Lib.hid hsays
  have HX4 := Lib.hid (box_below HX1.out hbw4 (box_lt HX1.out))
  have HB4 := Lib.hid (HB1.out.trans (hbw4.mono HB1.out.size))
  clear hsays hbw4 HX1 HB1 HRD
  have p8 := cell_of_row w4 x0 8 _ _ _ HX4.out
  have p9 := cell_of_row w4 x0 9 _ _ _ HX4.out
  have p10 := cell_of_row w4 x0 10 _ _ _ HX4.out
  have p11 := cell_of_row w4 x0 11 _ _ _ HX4.out
  have p12 := cell_of_row w4 x0 12 _ _ _ HX4.out
  have p13 := cell_of_row w4 x0 13 _ _ _ HX4.out
  go_wp2
  clear p8 p9 p10 p11 p12 p13
  go_loopw [3, 21] (fun v i wr => ∃ k : Nat, k ≤ 6 ∧ i = .int .i64 (k : Nat) ∧ wr.ownsRow w.heap.size 5 1 v (10 + k) (bl (B ++ (uuOf y0 y1 y2 y3 y4 y5).take k)) ∧ wr.heap[x0]? = some (.cells #[.int .u16 (F : Nat), .int .u16 (I' : Nat), .int .u8 (r0 : Nat), .int .u8 (r1 : Nat), .int .u8 (r2 : Nat), .int .u8 (r3 : Nat), .int .u8 (r4 : Nat), .int .u8 (r5 : Nat), .int .i8 ((y0 : Int) - 1), .int .i8 ((y1 : Int) - 1), .int .i8 ((y2 : Int) - 1), .int .i8 ((y3 : Int) - 1), .int .i8 ((y4 : Int) - 1), .int .i8 ((y5 : Int) - 1), .int .u8 (M : Nat), .int .u16 (N : Nat), .bool x, .int .u8 (H : Nat)] 35 (0, 0)) ∧ Below w.heap.size w wr) (fun _ i _ => 6 - (intOf i).toNat)
  case atStart => exact ⟨0, by omega, rfl, by simpa using HO4.out, HX4.out, HB4.out⟩
  case round =>
    obtain ⟨k, hk, rfl, hown, hx, hB⟩ := hrel
    have hsr : w.heap.size ≤ wr.heap.size := hB.size
    have HO := Lib.hid hown
    have HX := Lib.hid hx
    have HB := Lib.hid hB
    clear hown hx hB HO4 HX4 HB4
    have : k = 0 ∨ k = 1 ∨ k = 2 ∨ k = 3 ∨ k = 4 ∨ k = 5 ∨ k = 6 := by omega
    rcases this with rfl | rfl | rfl | rfl | rfl | rfl | rfl
    · have hyW : IntKind.i8.wrap ((y0 : Int) - 1 + 1) = (y0 : Int) := by
        rw [show (y0 : Int) - 1 + 1 = (y0 : Int) by omega]; exact (wrap8_s y0 (by omega))
      have hyI : (y0 : Int) - 1 + 1 = (y0 : Int) := by omega
      have hyU : IntKind.u8.wrap (y0 : Int) = (y0 : Int) := by rw [IntKind.wrap_u8]; omega
      go_wp2_with (at_builtin; refine wpList_append_own _ rfl _ _ 29 rfl w.heap.size 5 i0 (.int .u8 0) 1 1 Try.underlying29 hi hz0 hz1 hz2 rfl (by decide) _ _ _ rfl (HO.out.alloc _) ⟨wr.heap.size, 0, none⟩ 1 1 [.int .u8 (y0 : Nat)] rfl rfl (cell_one_new _ _ _) (by simp [Value.oneCell']) (by unfold maxLen; omega) (by omega) (by simp; omega) ?_)
      intro v' w4 hown4 hgrow4 _
      have hB4 : Below w.heap.size w w4 := (HB.out.alloc hsr _).grown hgrow4 (by simp; omega) (fun j e => ((HO.out.lt j e).1))
      have HB4 := Lib.hid hB4
      have hown4' : w4.ownsRow w.heap.size 5 1 v' (10 + (0 + 1)) (bl (B ++ (uuOf y0 y1 y2 y3 y4 y5).take (0 + 1))) := by
        have h := hown4
        simp [bl, uuOf] at h ⊢
        exact h
      have HO4 := Lib.hid hown4'
      have HX4 := Lib.hid ((hgrow4.block x0 (by simp; have := box_lt HX.out; omega) (box_apart HX.out HO.out (by decide))).trans ((heap_alloc_old' wr _ (box_lt HX.out)).trans HX.out))
      clear hown4 hown4' hgrow4 hB4 HO HB HX hyI hyW hyU
      go_wp2
      go_roundw
      case rel => exact ⟨0 + 1, by omega, by go_num, HO4.out, HX4.out, HB4.out⟩
      case measure => simp [intOf]
    · have hyW : IntKind.i8.wrap ((y1 : Int) - 1 + 1) = (y1 : Int) := by
        rw [show (y1 : Int) - 1 + 1 = (y1 : Int) by omega]; exact (wrap8_s y1 (by omega))
      have hyI : (y1 : Int) - 1 + 1 = (y1 : Int) := by omega
      have hyU : IntKind.u8.wrap (y1 : Int) = (y1 : Int) := by rw [IntKind.wrap_u8]; omega
      go_wp2_with (at_builtin; refine wpList_append_own _ rfl _ _ 29 rfl w.heap.size 5 i0 (.int .u8 0) 1 1 Try.underlying29 hi hz0 hz1 hz2 rfl (by decide) _ _ _ rfl (HO.out.alloc _) ⟨wr.heap.size, 0, none⟩ 1 1 [.int .u8 (y1 : Nat)] rfl rfl (cell_one_new _ _ _) (by simp [Value.oneCell']) (by unfold maxLen; omega) (by omega) (by simp; omega) ?_)
      intro v' w4 hown4 hgrow4 _
      have hB4 : Below w.heap.size w w4 := (HB.out.alloc hsr _).grown hgrow4 (by simp; omega) (fun j e => ((HO.out.lt j e).1))
      have HB4 := Lib.hid hB4
      have hown4' : w4.ownsRow w.heap.size 5 1 v' (10 + (1 + 1)) (bl (B ++ (uuOf y0 y1 y2 y3 y4 y5).take (1 + 1))) := by
        have h := hown4
        simp [bl, uuOf] at h ⊢
        exact h
      have HO4 := Lib.hid hown4'
      have HX4 := Lib.hid ((hgrow4.block x0 (by simp; have := box_lt HX.out; omega) (box_apart HX.out HO.out (by decide))).trans ((heap_alloc_old' wr _ (box_lt HX.out)).trans HX.out))
      clear hown4 hown4' hgrow4 hB4 HO HB HX hyI hyW hyU
      go_wp2
      go_roundw
      case rel => exact ⟨1 + 1, by omega, by go_num, HO4.out, HX4.out, HB4.out⟩
      case measure => simp [intOf]
    · have hyW : IntKind.i8.wrap ((y2 : Int) - 1 + 1) = (y2 : Int) := by
        rw [show (y2 : Int) - 1 + 1 = (y2 : Int) by omega]; exact (wrap8_s y2 (by omega))
      have hyI : (y2 : Int) - 1 + 1 = (y2 : Int) := by omega
      have hyU : IntKind.u8.wrap (y2 : Int) = (y2 : Int) := by rw [IntKind.wrap_u8]; omega
      go_wp2_with (at_builtin; refine wpList_append_own _ rfl _ _ 29 rfl w.heap.size 5 i0 (.int .u8 0) 1 1 Try.underlying29 hi hz0 hz1 hz2 rfl (by decide) _ _ _ rfl (HO.out.alloc _) ⟨wr.heap.size, 0, none⟩ 1 1 [.int .u8 (y2 : Nat)] rfl rfl (cell_one_new _ _ _) (by simp [Value.oneCell']) (by unfold maxLen; omega) (by omega) (by simp; omega) ?_)
      intro v' w4 hown4 hgrow4 _
      have hB4 : Below w.heap.size w w4 := (HB.out.alloc hsr _).grown hgrow4 (by simp; omega) (fun j e => ((HO.out.lt j e).1))
      have HB4 := Lib.hid hB4
      have hown4' : w4.ownsRow w.heap.size 5 1 v' (10 + (2 + 1)) (bl (B ++ (uuOf y0 y1 y2 y3 y4 y5).take (2 + 1))) := by
        have h := hown4
        simp [bl, uuOf] at h ⊢
        exact h
      have HO4 := Lib.hid hown4'
      have HX4 := Lib.hid ((hgrow4.block x0 (by simp; have := box_lt HX.out; omega) (box_apart HX.out HO.out (by decide))).trans ((heap_alloc_old' wr _ (box_lt HX.out)).trans HX.out))
      clear hown4 hown4' hgrow4 hB4 HO HB HX hyI hyW hyU
      go_wp2
      go_roundw
      case rel => exact ⟨2 + 1, by omega, by go_num, HO4.out, HX4.out, HB4.out⟩
      case measure => simp [intOf]
    · have hyW : IntKind.i8.wrap ((y3 : Int) - 1 + 1) = (y3 : Int) := by
        rw [show (y3 : Int) - 1 + 1 = (y3 : Int) by omega]; exact (wrap8_s y3 (by omega))
      have hyI : (y3 : Int) - 1 + 1 = (y3 : Int) := by omega
      have hyU : IntKind.u8.wrap (y3 : Int) = (y3 : Int) := by rw [IntKind.wrap_u8]; omega
      go_wp2_with (at_builtin; refine wpList_append_own _ rfl _ _ 29 rfl w.heap.size 5 i0 (.int .u8 0) 1 1 Try.underlying29 hi hz0 hz1 hz2 rfl (by decide) _ _ _ rfl (HO.out.alloc _) ⟨wr.heap.size, 0, none⟩ 1 1 [.int .u8 (y3 : Nat)] rfl rfl (cell_one_new _ _ _) (by simp [Value.oneCell']) (by unfold maxLen; omega) (by omega) (by simp; omega) ?_)
      intro v' w4 hown4 hgrow4 _
      have hB4 : Below w.heap.size w w4 := (HB.out.alloc hsr _).grown hgrow4 (by simp; omega) (fun j e => ((HO.out.lt j e).1))
      have HB4 := Lib.hid hB4
      have hown4' : w4.ownsRow w.heap.size 5 1 v' (10 + (3 + 1)) (bl (B ++ (uuOf y0 y1 y2 y3 y4 y5).take (3 + 1))) := by
        have h := hown4
        simp [bl, uuOf] at h ⊢
        exact h
      have HO4 := Lib.hid hown4'
      have HX4 := Lib.hid ((hgrow4.block x0 (by simp; have := box_lt HX.out; omega) (box_apart HX.out HO.out (by decide))).trans ((heap_alloc_old' wr _ (box_lt HX.out)).trans HX.out))
      clear hown4 hown4' hgrow4 hB4 HO HB HX hyI hyW hyU
      go_wp2
      go_roundw
      case rel => exact ⟨3 + 1, by omega, by go_num, HO4.out, HX4.out, HB4.out⟩
      case measure => simp [intOf]
    · have hyW : IntKind.i8.wrap ((y4 : Int) - 1 + 1) = (y4 : Int) := by
        rw [show (y4 : Int) - 1 + 1 = (y4 : Int) by omega]; exact (wrap8_s y4 (by omega))
      have hyI : (y4 : Int) - 1 + 1 = (y4 : Int) := by omega
      have hyU : IntKind.u8.wrap (y4 : Int) = (y4 : Int) := by rw [IntKind.wrap_u8]; omega
      go_wp2_with (at_builtin; refine wpList_append_own _ rfl _ _ 29 rfl w.heap.size 5 i0 (.int .u8 0) 1 1 Try.underlying29 hi hz0 hz1 hz2 rfl (by decide) _ _ _ rfl (HO.out.alloc _) ⟨wr.heap.size, 0, none⟩ 1 1 [.int .u8 (y4 : Nat)] rfl rfl (cell_one_new _ _ _) (by simp [Value.oneCell']) (by unfold maxLen; omega) (by omega) (by simp; omega) ?_)
      intro v' w4 hown4 hgrow4 _
      have hB4 : Below w.heap.size w w4 := (HB.out.alloc hsr _).grown hgrow4 (by simp; omega) (fun j e => ((HO.out.lt j e).1))
      have HB4 := Lib.hid hB4
      have hown4' : w4.ownsRow w.heap.size 5 1 v' (10 + (4 + 1)) (bl (B ++ (uuOf y0 y1 y2 y3 y4 y5).take (4 + 1))) := by
        have h := hown4
        simp [bl, uuOf] at h ⊢
        exact h
      have HO4 := Lib.hid hown4'
      have HX4 := Lib.hid ((hgrow4.block x0 (by simp; have := box_lt HX.out; omega) (box_apart HX.out HO.out (by decide))).trans ((heap_alloc_old' wr _ (box_lt HX.out)).trans HX.out))
      clear hown4 hown4' hgrow4 hB4 HO HB HX hyI hyW hyU
      go_wp2
      go_roundw
      case rel => exact ⟨4 + 1, by omega, by go_num, HO4.out, HX4.out, HB4.out⟩
      case measure => simp [intOf]
    · have hyW : IntKind.i8.wrap ((y5 : Int) - 1 + 1) = (y5 : Int) := by
        rw [show (y5 : Int) - 1 + 1 = (y5 : Int) by omega]; exact (wrap8_s y5 (by omega))
      have hyI : (y5 : Int) - 1 + 1 = (y5 : Int) := by omega
      have hyU : IntKind.u8.wrap (y5 : Int) = (y5 : Int) := by rw [IntKind.wrap_u8]; omega
      go_wp2_with (at_builtin; refine wpList_append_own _ rfl _ _ 29 rfl w.heap.size 5 i0 (.int .u8 0) 1 1 Try.underlying29 hi hz0 hz1 hz2 rfl (by decide) _ _ _ rfl (HO.out.alloc _) ⟨wr.heap.size, 0, none⟩ 1 1 [.int .u8 (y5 : Nat)] rfl rfl (cell_one_new _ _ _) (by simp [Value.oneCell']) (by unfold maxLen; omega) (by omega) (by simp; omega) ?_)
      intro v' w4 hown4 hgrow4 _
      have hB4 : Below w.heap.size w w4 := (HB.out.alloc hsr _).grown hgrow4 (by simp; omega) (fun j e => ((HO.out.lt j e).1))
      have HB4 := Lib.hid hB4
      have hown4' : w4.ownsRow w.heap.size 5 1 v' (10 + (5 + 1)) (bl (B ++ (uuOf y0 y1 y2 y3 y4 y5).take (5 + 1))) := by
        have h := hown4
        simp [bl, uuOf] at h ⊢
        exact h
      have HO4 := Lib.hid hown4'
      have HX4 := Lib.hid ((hgrow4.block x0 (by simp; have := box_lt HX.out; omega) (box_apart HX.out HO.out (by decide))).trans ((heap_alloc_old' wr _ (box_lt HX.out)).trans HX.out))
      clear hown4 hown4' hgrow4 hB4 HO HB HX hyI hyW hyU
      go_wp2
      go_roundw
      case rel => exact ⟨5 + 1, by omega, by go_num, HO4.out, HX4.out, HB4.out⟩
      case measure => simp [intOf]
    · obtain ⟨P, hP⟩ : ∃ P, P = B ++ (uuOf y0 y1 y2 y3 y4 y5).take 6 := ⟨_, rfl⟩
      have hown : wr.ownsRow w.heap.size 5 1 u3 16 (bl (B ++ (uuOf y0 y1 y2 y3 y4 y5).take 6)) := HO.out
      rw [← hP] at hown
      have hPl : P.length = 16 := by rw [hP, List.length_append, HBL.out]; rfl
      have hPe : P = [F / 256, F % 256, I' / 256, I' % 256, r0, r1, r2, r3, r4, r5, y0, y1, y2, y3, y4, y5] := by rw [hP, HBE.out]; rfl
      obtain ⟨a3, c3, rfl⟩ := own_form hown
      have HRP := Lib.hid (rd_of_own (f := bv P) hown (fun i hi => bl_at P (by rw [hPl]; omega)))
      have HPL := Lib.hid hPl
      have HPE := Lib.hid hPe
      obtain ⟨NN, hNN⟩ : ∃ L, L = numB N 2 := ⟨_, rfl⟩
      have HNN := Lib.hid hNN
      have HNNL := Lib.hid (show NN.length = 2 by rw [hNN]; exact numB_len _ _)
      obtain ⟨w2, rfl⟩ : ∃ w2 : World, w2 = wr := ⟨_, rfl⟩
      have d14 := cell_of_row w2 x0 14 _ _ _ HX.out
      have d15 := cell_of_row w2 x0 15 _ _ _ HX.out
      have d16 := cell_of_row w2 x0 16 _ _ _ HX.out
      have d17 := cell_of_row w2 x0 17 _ _ _ HX.out
      have hx2 := box_lt HX.out
      clear hown hP hPl hPe HO HBF HBE hNN
      cases x with
      | false => obtain ⟨R, hR⟩ : ∃ R : List Nat, R = [F / 256, F % 256, I' / 256, I' % 256, r0, r1, r2, r3, r4, r5, y0, y1, y2, y3, y4, y5, M, N / 256, N % 256, 0, H] := ⟨_, rfl⟩
                 have hRf : ([P, [M], NN, [0, H]] : List (List Nat)).flatten = R := by
                   rw [hR, HPE.out, HNN.out, numB_2]
                   simp
                   omega
                 have hRl : R.length = 21 := by rw [hR]; rfl
                 have HRE := Lib.hid hR
                 have HRF := Lib.hid hRf
                 have HRL := Lib.hid hRl
                 clear hR hRf hRl
                 go_wp2_with fail
                 obtain ⟨I, W, hne, hWI, hIW⟩ := Go.Mix.family (fun v => Below w2.heap.size w2 v) (Below.refl _ _)
                 have HJ := Lib.hid hIW
                 have HW := Lib.hid hWI
                 clear hWI hIW
                 refine Go.Flo.wp_region (fun w' => ∃ i, w' = W i) 15 [SpB [M], SpB NN, SpB [0, H], SpRows 0 [P, [M], NN, [0, H]] 29, SpO w.heap.size R] (by kernel_rfl) (by kernel_rfl) (by decide) (by rintro _ w' ⟨i, rfl⟩ hb; exact HJ.out _ ((HW.out i).trans (hb.mono (HW.out i).size))) (HJ.out _ (Below.refl _ _).drew) ?_
                 simp only [Go.Flo.pair, Go.Mix.calm, List.take, List.drop, if_true, Bool.false_eq_true, if_false, Nat.reduceAdd, Nat.reduceSub]
                 have k14 : ∀ i, (W i).cell? ⟨x0, 14, none⟩ = some (.int .u8 (M : Nat)) := fun i => ((HW.out i).cell (p := ⟨x0, 14, none⟩) hx2).trans d14
                 have k15 : ∀ i, (W i).cell? ⟨x0, 15, none⟩ = some (.int .u16 (N : Nat)) := fun i => ((HW.out i).cell (p := ⟨x0, 15, none⟩) hx2).trans d15
                 have k17 : ∀ i, (W i).cell? ⟨x0, 17, none⟩ = some (.int .u8 (H : Nat)) := fun i => ((HW.out i).cell (p := ⟨x0, 17, none⟩) hx2).trans d17
                 clear d14 d15 d16 d17
                 (repeat (first | (refine Go.Flo.fw_calm rfl ?_ (fun K hK => ?_); (first | exact Go.Mix.wanted_none rfl | exact Go.Mix.wanted_tt rfl rfl rfl | exact Go.Mix.wanted_ff rfl rfl rfl); go_big_quiet_op; refine hK _ ?_; clear hK K) | (refine Go.Flo.fw_skip ?_ (fun K hK => ?_); (first | exact Go.Mix.wanted_tf rfl rfl rfl | exact Go.Mix.wanted_ft rfl rfl rfl); go_simp; refine hK _ ?_; clear hK K) | (refine Go.Flo.fw_any rfl ?_ (fun K hK => ?_); (first | exact Go.Mix.wanted_none rfl | exact Go.Mix.wanted_tt rfl rfl rfl | exact Go.Mix.wanted_ff rfl rfl rfl); go_simp; (try (go_ints; try go_simp)); refine hK _ ?_; clear hK K)))
                 refine Go.Flo.fw_loud rfl ?_ rfl (by simp) (fun wv hwv hav K hK => ?_) (fun v hv K hK => ?_)
                 · (first | exact Go.Mix.wanted_none rfl | exact Go.Mix.wanted_tt rfl rfl rfl | exact Go.Mix.wanted_ff rfl rfl rfl)
                 · obtain ⟨iv, rfl⟩ := hwv
                   have hbv := HW.out iv
                   (first | go_big_op | go_simp)
                   refine hK _ _ (owes_lit (l := [M]) rfl (by decide) rfl)
                 obtain ⟨b5, q5, rfl⟩ := ex_B hv
                 go_simp
                 refine hK _ ?_
                 clear hK K hv
                 (repeat (first | (refine Go.Flo.fw_calm rfl ?_ (fun K hK => ?_); (first | exact Go.Mix.wanted_none rfl | exact Go.Mix.wanted_tt rfl rfl rfl | exact Go.Mix.wanted_ff rfl rfl rfl); go_big_quiet_op; refine hK _ ?_; clear hK K) | (refine Go.Flo.fw_skip ?_ (fun K hK => ?_); (first | exact Go.Mix.wanted_tf rfl rfl rfl | exact Go.Mix.wanted_ft rfl rfl rfl); go_simp; refine hK _ ?_; clear hK K) | (refine Go.Flo.fw_any rfl ?_ (fun K hK => ?_); (first | exact Go.Mix.wanted_none rfl | exact Go.Mix.wanted_tt rfl rfl rfl | exact Go.Mix.wanted_ff rfl rfl rfl); go_simp; (try (go_ints; try go_simp)); refine hK _ ?_; clear hK K)))
                 refine Go.Flo.fw_loud rfl ?_ rfl (by simp) (fun wv hwv hav K hK => ?_) (fun v hv K hK => ?_)
                 · (first | exact Go.Mix.wanted_none rfl | exact Go.Mix.wanted_tt rfl rfl rfl | exact Go.Mix.wanted_ff rfl rfl rfl)
                 · obtain ⟨iv, rfl⟩ := hwv
                   have hbv := HW.out iv
                   (first | go_big_op | go_simp)
                   go_at_call 62
                   refine (Num_z _ N 2 _ rfl (by omega) (by decide)).mono ?_
                   rintro e w' ⟨b2, q2, rfl, hown, hbb⟩
                   rw [← HNN.out] at hown
                   exact hK _ _ (owes_B HNNL.out rfl hbb hown)
                 obtain ⟨b6, q6, rfl⟩ := ex_B hv
                 rw [HNNL.out]
                 go_simp
                 refine hK _ ?_
                 clear hK K hv
                 (repeat (first | (refine Go.Flo.fw_calm rfl ?_ (fun K hK => ?_); (first | exact Go.Mix.wanted_none rfl | exact Go.Mix.wanted_tt rfl rfl rfl | exact Go.Mix.wanted_ff rfl rfl rfl); go_big_quiet_op; refine hK _ ?_; clear hK K) | (refine Go.Flo.fw_skip ?_ (fun K hK => ?_); (first | exact Go.Mix.wanted_tf rfl rfl rfl | exact Go.Mix.wanted_ft rfl rfl rfl); go_simp; refine hK _ ?_; clear hK K) | (refine Go.Flo.fw_any rfl ?_ (fun K hK => ?_); (first | exact Go.Mix.wanted_none rfl | exact Go.Mix.wanted_tt rfl rfl rfl | exact Go.Mix.wanted_ff rfl rfl rfl); go_simp; (try (go_ints; try go_simp)); refine hK _ ?_; clear hK K)))
                 refine Go.Flo.fw_loud rfl ?_ rfl (by simp) (fun wv hwv hav K hK => ?_) (fun v hv K hK => ?_)
                 · (first | exact Go.Mix.wanted_none rfl | exact Go.Mix.wanted_tt rfl rfl rfl | exact Go.Mix.wanted_ff rfl rfl rfl)
                 · obtain ⟨iv, rfl⟩ := hwv
                   have hbv := HW.out iv
                   (first | go_big_op | go_simp)
                   refine hK _ _ (owes_lit (l := [0, H]) rfl (by decide) rfl)
                 obtain ⟨b7, q7, rfl⟩ := ex_B hv
                 go_simp
                 refine hK _ ?_
                 clear hK K hv
                 (repeat (first | (refine Go.Flo.fw_calm rfl ?_ (fun K hK => ?_); (first | exact Go.Mix.wanted_none rfl | exact Go.Mix.wanted_tt rfl rfl rfl | exact Go.Mix.wanted_ff rfl rfl rfl); go_big_quiet_op; refine hK _ ?_; clear hK K) | (refine Go.Flo.fw_skip ?_ (fun K hK => ?_); (first | exact Go.Mix.wanted_tf rfl rfl rfl | exact Go.Mix.wanted_ft rfl rfl rfl); go_simp; refine hK _ ?_; clear hK K) | (refine Go.Flo.fw_any rfl ?_ (fun K hK => ?_); (first | exact Go.Mix.wanted_none rfl | exact Go.Mix.wanted_tt rfl rfl rfl | exact Go.Mix.wanted_ff rfl rfl rfl); go_simp; (try (go_ints; try go_simp)); refine hK _ ?_; clear hK K)))
                 refine Go.Flo.fw_loud rfl ?_ rfl (by simp) (fun wv hwv hav K hK => ?_) (fun v hv K hK => ?_)
                 · (first | exact Go.Mix.wanted_none rfl | exact Go.Mix.wanted_tt rfl rfl rfl | exact Go.Mix.wanted_ff rfl rfl rfl)
                 · obtain ⟨iv, rfl⟩ := hwv
                   have hbv := HW.out iv
                   (first | go_big_op | go_simp)
                   have f1 := hav 36 (by decide +kernel)
                   iterate 8 (replace f1 := f1.1)
                   have f2 := hav 40 (by decide +kernel)
                   iterate 4 (replace f2 := f2.1)
                   have f3 := hav 44 (by decide +kernel)
                   have s1 := says_B (f1.2 rfl).1
                   have s2 := says_B (f2.2 rfl).1
                   have s3 := says_B (f3.2 rfl).1
                   have s0 := (HRP.out.below hbv).mono hbv.size
                   try rw [← HNNL.out] at s2
                   try rw [← HPL.out] at s0
                   refine hK _ _ (owes_rows (at4' a3 b5 b6 b7) (at4' c3 q5 q6 q7) (Nat.zero_le _) rfl ?_ (all4 s0 s1 s2 s3))
                   simp [rowsC, at4', List.range_succ, HNNL.out, HPL.out]
                 obtain ⟨g8, rfl⟩ := ex_rows hv
                 go_simp
                 refine hK _ ?_
                 clear hK K hv
                 (repeat (first | (refine Go.Flo.fw_calm rfl ?_ (fun K hK => ?_); (first | exact Go.Mix.wanted_none rfl | exact Go.Mix.wanted_tt rfl rfl rfl | exact Go.Mix.wanted_ff rfl rfl rfl); go_big_quiet_op; refine hK _ ?_; clear hK K) | (refine Go.Flo.fw_skip ?_ (fun K hK => ?_); (first | exact Go.Mix.wanted_tf rfl rfl rfl | exact Go.Mix.wanted_ft rfl rfl rfl); go_simp; refine hK _ ?_; clear hK K) | (refine Go.Flo.fw_any rfl ?_ (fun K hK => ?_); (first | exact Go.Mix.wanted_none rfl | exact Go.Mix.wanted_tt rfl rfl rfl | exact Go.Mix.wanted_ff rfl rfl rfl); go_simp; (try (go_ints; try go_simp)); refine hK _ ?_; clear hK K)))
                 refine Go.Flo.fw_loud rfl ?_ rfl (by simp) (fun wv hwv hav K hK => ?_) (fun v hv K hK => ?_)
                 · (first | exact Go.Mix.wanted_none rfl | exact Go.Mix.wanted_tt rfl rfl rfl | exact Go.Mix.wanted_ff rfl rfl rfl)
                 · obtain ⟨iv, rfl⟩ := hwv
                   have hbv := HW.out iv
                   (first | go_big_op | go_simp)
                   have s4 := ((hav 45 (by decide +kernel)).2 rfl).1
                   go_at_call 23
                   refine (JoinRows s4 (by simp) (by rw [HRF.out, HRL.out]; omega)).mono ?_
                   rintro e w' ⟨v, rfl, hown, hbb⟩
                   rw [HRF.out] at hown
                   exact hK _ _ (owes_O rfl rfl hbb hown (by have := hbv.size; omega))
                 obtain ⟨a9, c9, rfl⟩ := ex_O hv
                 rw [HRL.out]
                 go_simp
                 refine hK _ ?_
                 clear hK K hv
                 (repeat (first | (refine Go.Flo.fw_calm rfl ?_ (fun K hK => ?_); (first | exact Go.Mix.wanted_none rfl | exact Go.Mix.wanted_tt rfl rfl rfl | exact Go.Mix.wanted_ff rfl rfl rfl); go_big_quiet_op; refine hK _ ?_; clear hK K) | (refine Go.Flo.fw_skip ?_ (fun K hK => ?_); (first | exact Go.Mix.wanted_tf rfl rfl rfl | exact Go.Mix.wanted_ft rfl rfl rfl); go_simp; refine hK _ ?_; clear hK K) | (refine Go.Flo.fw_any rfl ?_ (fun K hK => ?_); (first | exact Go.Mix.wanted_none rfl | exact Go.Mix.wanted_tt rfl rfl rfl | exact Go.Mix.wanted_ff rfl rfl rfl); go_simp; (try (go_ints; try go_simp)); refine hK _ ?_; clear hK K)))
                 refine Go.Flo.fw_nil ?_
                 intro w5 hww5 hfw5 huw5
                 refine Go.Flo.tw_nil ?_
                 obtain ⟨iend, hiend⟩ := hww5
                 have hbw5 := HW.out iend
                 rw [← hiend] at hbw5
                 clear hiend iend huw5
                 have hsays : w5.ownsRow w.heap.size 5 1 (.slice a9 R.length c9) R.length (bl R) := ((hfw5 (some 46)).1.2 rfl).1
                 clear hfw5 HJ HW hne k14 k15 k17
                 clear W I
                 rw [HRL.out] at hsays
                 have HS5 := Lib.hid hsays
                 have HB5 := Lib.hid (HB.out.trans (hbw5.mono hsr))
                 clear hsays hbw5
                 go_wp2
                 go_ret
                 exact ⟨_, rfl, by rw [← HRE.out]; exact HS5.out, HB5.out⟩
      | true => obtain ⟨R, hR⟩ : ∃ R : List Nat, R = [F / 256, F % 256, I' / 256, I' % 256, r0, r1, r2, r3, r4, r5, y0, y1, y2, y3, y4, y5, M, N / 256, N % 256, 1, H] := ⟨_, rfl⟩
                have hRf : ([P, [M], NN, [1, H]] : List (List Nat)).flatten = R := by
                  rw [hR, HPE.out, HNN.out, numB_2]
                  simp
                  omega
                have hRl : R.length = 21 := by rw [hR]; rfl
                have HRE := Lib.hid hR
                have HRF := Lib.hid hRf
                have HRL := Lib.hid hRl
                clear hR hRf hRl
                go_wp2_with fail
                obtain ⟨I, W, hne, hWI, hIW⟩ := Go.Mix.family (fun v => Below w2.heap.size w2 v) (Below.refl _ _)
                have HJ := Lib.hid hIW
                have HW := Lib.hid hWI
                clear hWI hIW
                refine Go.Flo.wp_region (fun w' => ∃ i, w' = W i) 15 [SpB [M], SpB NN, SpB [1, H], SpRows 0 [P, [M], NN, [1, H]] 29, SpO w.heap.size R] (by kernel_rfl) (by kernel_rfl) (by decide) (by rintro _ w' ⟨i, rfl⟩ hb; exact HJ.out _ ((HW.out i).trans (hb.mono (HW.out i).size))) (HJ.out _ (Below.refl _ _).drew) ?_
                simp only [Go.Flo.pair, Go.Mix.calm, List.take, List.drop, if_true, Bool.false_eq_true, if_false, Nat.reduceAdd, Nat.reduceSub]
                have k14 : ∀ i, (W i).cell? ⟨x0, 14, none⟩ = some (.int .u8 (M : Nat)) := fun i => ((HW.out i).cell (p := ⟨x0, 14, none⟩) hx2).trans d14
                have k15 : ∀ i, (W i).cell? ⟨x0, 15, none⟩ = some (.int .u16 (N : Nat)) := fun i => ((HW.out i).cell (p := ⟨x0, 15, none⟩) hx2).trans d15
                have k17 : ∀ i, (W i).cell? ⟨x0, 17, none⟩ = some (.int .u8 (H : Nat)) := fun i => ((HW.out i).cell (p := ⟨x0, 17, none⟩) hx2).trans d17
                clear d14 d15 d16 d17
                (repeat (first | (refine Go.Flo.fw_calm rfl ?_ (fun K hK => ?_); (first | exact Go.Mix.wanted_none rfl | exact Go.Mix.wanted_tt rfl rfl rfl | exact Go.Mix.wanted_ff rfl rfl rfl); go_big_quiet_op; refine hK _ ?_; clear hK K) | (refine Go.Flo.fw_skip ?_ (fun K hK => ?_); (first | exact Go.Mix.wanted_tf rfl rfl rfl | exact Go.Mix.wanted_ft rfl rfl rfl); go_simp; refine hK _ ?_; clear hK K) | (refine Go.Flo.fw_any rfl ?_ (fun K hK => ?_); (first | exact Go.Mix.wanted_none rfl | exact Go.Mix.wanted_tt rfl rfl rfl | exact Go.Mix.wanted_ff rfl rfl rfl); go_simp; (try (go_ints; try go_simp)); refine hK _ ?_; clear hK K)))
                refine Go.Flo.fw_loud rfl ?_ rfl (by simp) (fun wv hwv hav K hK => ?_) (fun v hv K hK => ?_)
                · (first | exact Go.Mix.wanted_none rfl | exact Go.Mix.wanted_tt rfl rfl rfl | exact Go.Mix.wanted_ff rfl rfl rfl)
                · obtain ⟨iv, rfl⟩ := hwv
                  have hbv := HW.out iv
                  (first | go_big_op | go_simp)
                  refine hK _ _ (owes_lit (l := [M]) rfl (by decide) rfl)
                obtain ⟨b5, q5, rfl⟩ := ex_B hv
                go_simp
                refine hK _ ?_
                clear hK K hv
                (repeat (first | (refine Go.Flo.fw_calm rfl ?_ (fun K hK => ?_); (first | exact Go.Mix.wanted_none rfl | exact Go.Mix.wanted_tt rfl rfl rfl | exact Go.Mix.wanted_ff rfl rfl rfl); go_big_quiet_op; refine hK _ ?_; clear hK K) | (refine Go.Flo.fw_skip ?_ (fun K hK => ?_); (first | exact Go.Mix.wanted_tf rfl rfl rfl | exact Go.Mix.wanted_ft rfl rfl rfl); go_simp; refine hK _ ?_; clear hK K) | (refine Go.Flo.fw_any rfl ?_ (fun K hK => ?_); (first | exact Go.Mix.wanted_none rfl | exact Go.Mix.wanted_tt rfl rfl rfl | exact Go.Mix.wanted_ff rfl rfl rfl); go_simp; (try (go_ints; try go_simp)); refine hK _ ?_; clear hK K)))
                refine Go.Flo.fw_loud rfl ?_ rfl (by simp) (fun wv hwv hav K hK => ?_) (fun v hv K hK => ?_)
                · (first | exact Go.Mix.wanted_none rfl | exact Go.Mix.wanted_tt rfl rfl rfl | exact Go.Mix.wanted_ff rfl rfl rfl)
                · obtain ⟨iv, rfl⟩ := hwv
                  have hbv := HW.out iv
                  (first | go_big_op | go_simp)
                  go_at_call 62
                  refine (Num_z _ N 2 _ rfl (by omega) (by decide)).mono ?_
                  rintro e w' ⟨b2, q2, rfl, hown, hbb⟩
                  rw [← HNN.out] at hown
                  exact hK _ _ (owes_B HNNL.out rfl hbb hown)
                obtain ⟨b6, q6, rfl⟩ := ex_B hv
                rw [HNNL.out]
                go_simp
                refine hK _ ?_
                clear hK K hv
                (repeat (first | (refine Go.Flo.fw_calm rfl ?_ (fun K hK => ?_); (first | exact Go.Mix.wanted_none rfl | exact Go.Mix.wanted_tt rfl rfl rfl | exact Go.Mix.wanted_ff rfl rfl rfl); go_big_quiet_op; refine hK _ ?_; clear hK K) | (refine Go.Flo.fw_skip ?_ (fun K hK => ?_); (first | exact Go.Mix.wanted_tf rfl rfl rfl | exact Go.Mix.wanted_ft rfl rfl rfl); go_simp; refine hK _ ?_; clear hK K) | (refine Go.Flo.fw_any rfl ?_ (fun K hK => ?_); (first | exact Go.Mix.wanted_none rfl | exact Go.Mix.wanted_tt rfl rfl rfl | exact Go.Mix.wanted_ff rfl rfl rfl); go_simp; (try (go_ints; try go_simp)); refine hK _ ?_; clear hK K)))
                refine Go.Flo.fw_loud rfl ?_ rfl (by simp) (fun wv hwv hav K hK => ?_) (fun v hv K hK => ?_)
                · (first | exact Go.Mix.wanted_none rfl | exact Go.Mix.wanted_tt rfl rfl rfl | exact Go.Mix.wanted_ff rfl rfl rfl)
                · obtain ⟨iv, rfl⟩ := hwv
                  have hbv := HW.out iv
                  (first | go_big_op | go_simp)
                  refine hK _ _ (owes_lit (l := [1, H]) rfl (by decide) rfl)
                obtain ⟨b7, q7, rfl⟩ := ex_B hv
                go_simp
                refine hK _ ?_
                clear hK K hv
                (repeat (first | (refine Go.Flo.fw_calm rfl ?_ (fun K hK => ?_); (first | exact Go.Mix.wanted_none rfl | exact Go.Mix.wanted_tt rfl rfl rfl | exact Go.Mix.wanted_ff rfl rfl rfl); go_big_quiet_op; refine hK _ ?_; clear hK K) | (refine Go.Flo.fw_skip ?_ (fun K hK => ?_); (first | exact Go.Mix.wanted_tf rfl rfl rfl | exact Go.Mix.wanted_ft rfl rfl rfl); go_simp; refine hK _ ?_; clear hK K) | (refine Go.Flo.fw_any rfl ?_ (fun K hK => ?_); (first | exact Go.Mix.wanted_none rfl | exact Go.Mix.wanted_tt rfl rfl rfl | exact Go.Mix.wanted_ff rfl rfl rfl); go_simp; (try (go_ints; try go_simp)); refine hK _ ?_; clear hK K)))
                refine Go.Flo.fw_loud rfl ?_ rfl (by simp) (fun wv hwv hav K hK => ?_) (fun v hv K hK => ?_)
                · (first | exact Go.Mix.wanted_none rfl | exact Go.Mix.wanted_tt rfl rfl rfl | exact Go.Mix.wanted_ff rfl rfl rfl)
                · obtain ⟨iv, rfl⟩ := hwv
                  have hbv := HW.out iv
                  (first | go_big_op | go_simp)
                  have f1 := hav 36 (by decide +kernel)
                  iterate 8 (replace f1 := f1.1)
                  have f2 := hav 40 (by decide +kernel)
                  iterate 4 (replace f2 := f2.1)
                  have f3 := hav 44 (by decide +kernel)
                  have s1 := says_B (f1.2 rfl).1
                  have s2 := says_B (f2.2 rfl).1
                  have s3 := says_B (f3.2 rfl).1
                  have s0 := (HRP.out.below hbv).mono hbv.size
                  try rw [← HNNL.out] at s2
                  try rw [← HPL.out] at s0
                  refine hK _ _ (owes_rows (at4' a3 b5 b6 b7) (at4' c3 q5 q6 q7) (Nat.zero_le _) rfl ?_ (all4 s0 s1 s2 s3))
                  simp [rowsC, at4', List.range_succ, HNNL.out, HPL.out]
                obtain ⟨g8, rfl⟩ := ex_rows hv
                go_simp
                refine hK _ ?_
                clear hK K hv
                (repeat (first | (refine Go.Flo.fw_calm rfl ?_ (fun K hK => ?_); (first | exact Go.Mix.wanted_none rfl | exact Go.Mix.wanted_tt rfl rfl rfl | exact Go.Mix.wanted_ff rfl rfl rfl); go_big_quiet_op; refine hK _ ?_; clear hK K) | (refine Go.Flo.fw_skip ?_ (fun K hK => ?_); (first | exact Go.Mix.wanted_tf rfl rfl rfl | exact Go.Mix.wanted_ft rfl rfl rfl); go_simp; refine hK _ ?_; clear hK K) | (refine Go.Flo.fw_any rfl ?_ (fun K hK => ?_); (first | exact Go.Mix.wanted_none rfl | exact Go.Mix.wanted_tt rfl rfl rfl | exact Go.Mix.wanted_ff rfl rfl rfl); go_simp; (try (go_ints; try go_simp)); refine hK _ ?_; clear hK K)))
                refine Go.Flo.fw_loud rfl ?_ rfl (by simp) (fun wv hwv hav K hK => ?_) (fun v hv K hK => ?_)
                · (first | exact Go.Mix.wanted_none rfl | exact Go.Mix.wanted_tt rfl rfl rfl | exact Go.Mix.wanted_ff rfl rfl rfl)
                · obtain ⟨iv, rfl⟩ := hwv
                  have hbv := HW.out iv
                  (first | go_big_op | go_simp)
                  have s4 := ((hav 45 (by decide +kernel)).2 rfl).1
                  go_at_call 23
                  refine (JoinRows s4 (by simp) (by rw [HRF.out, HRL.out]; omega)).mono ?_
                  rintro e w' ⟨v, rfl, hown, hbb⟩
                  rw [HRF.out] at hown
                  exact hK _ _ (owes_O rfl rfl hbb hown (by have := hbv.size; omega))
                obtain ⟨a9, c9, rfl⟩ := ex_O hv
                rw [HRL.out]
                go_simp
                refine hK _ ?_
                clear hK K hv
                (repeat (first | (refine Go.Flo.fw_calm rfl ?_ (fun K hK => ?_); (first | exact Go.Mix.wanted_none rfl | exact Go.Mix.wanted_tt rfl rfl rfl | exact Go.Mix.wanted_ff rfl rfl rfl); go_big_quiet_op; refine hK _ ?_; clear hK K) | (refine Go.Flo.fw_skip ?_ (fun K hK => ?_); (first | exact Go.Mix.wanted_tf rfl rfl rfl | exact Go.Mix.wanted_ft rfl rfl rfl); go_simp; refine hK _ ?_; clear hK K) | (refine Go.Flo.fw_any rfl ?_ (fun K hK => ?_); (first | exact Go.Mix.wanted_none rfl | exact Go.Mix.wanted_tt rfl rfl rfl | exact Go.Mix.wanted_ff rfl rfl rfl); go_simp; (try (go_ints; try go_simp)); refine hK _ ?_; clear hK K)))
                refine Go.Flo.fw_nil ?_
                intro w5 hww5 hfw5 huw5
                refine Go.Flo.tw_nil ?_
                obtain ⟨iend, hiend⟩ := hww5
                have hbw5 := HW.out iend
                rw [← hiend] at hbw5
                clear hiend iend huw5
                have hsays : w5.ownsRow w.heap.size 5 1 (.slice a9 R.length c9) R.length (bl R) := ((hfw5 (some 46)).1.2 rfl).1
                clear hfw5 HJ HW hne k14 k15 k17
                clear W I
                rw [HRL.out] at hsays
                have HS5 := Lib.hid hsays
                have HB5 := Lib.hid (HB.out.trans (hbw5.mono hsr))
                clear hsays hbw5
                go_wp2
                go_ret
                exact ⟨_, rfl, by rw [← HRE.out]; exact HS5.out, HB5.out⟩
theorem rBytes_any (c : Cx) (w : World) (hok : c.Ok) (hr : c.right = true) : Calls Try.prog 22 #[.agg #[.int .u16 c.f, .int .u16 c.i, .int .u8 c.r0, .int .u8 c.r1, .int .u8 c.r2, .int .u8 c.r3, .int .u8 c.r4, .int .u8 c.r5, .int .i8 c.c0, .int .i8 c.c1, .int .i8 c.c2, .int .i8 c.c3, .int .i8 c.c4, .int .i8 c.c5, .int .u8 c.m, .int .u16 c.n, .bool c.x, .int .u8 c.h]] w fun e w' => ∃ v, e = .returned v ∧ w'.ownsRow w.heap.size 5 1 v 21 (bl (bytesOf c)) ∧ Below w.heap.size w w' := by
  have hu := ((Cx.right_iff c).1 hr).1
  have hrr := (Cx.right_iff c).1 hr
  obtain ⟨a1, a2, a3, a4, a5, a6, a7, a8, a9, a10, a11, a12, a13, a14, a15, a16, a17⟩ := hok
  have u0 : -1 ≤ c.c0 ∧ c.c0 < 16 := hu 0 (by omega)
  have u1 : -1 ≤ c.c1 ∧ c.c1 < 16 := hu 1 (by omega)
  have u2 : -1 ≤ c.c2 ∧ c.c2 < 16 := hu 2 (by omega)
  have u3 : -1 ≤ c.c3 ∧ c.c3 < 16 := hu 3 (by omega)
  have u4 : -1 ≤ c.c4 ∧ c.c4 < 16 := hu 4 (by omega)
  have u5 : -1 ≤ c.c5 ∧ c.c5 < 16 := hu 5 (by omega)
  have h := rBytes_ex c.f.toNat c.i.toNat c.r0.toNat c.r1.toNat c.r2.toNat c.r3.toNat c.r4.toNat c.r5.toNat (c.c0 + 1).toNat (c.c1 + 1).toNat (c.c2 + 1).toNat (c.c3 + 1).toNat (c.c4 + 1).toNat (c.c5 + 1).toNat c.m.toNat c.n.toNat c.h.toNat c.x w
    (by omega) (by omega) (by omega) (by omega) (by omega) (by omega) (by omega) (by omega) (by omega) (by omega) (by omega) (by omega) (by omega) (by omega) (by omega) (by omega) (by omega)
  have e : (⟨(c.f.toNat : Nat), (c.i.toNat : Nat), (c.r0.toNat : Nat), (c.r1.toNat : Nat), (c.r2.toNat : Nat), (c.r3.toNat : Nat), (c.r4.toNat : Nat), (c.r5.toNat : Nat), (((c.c0 + 1).toNat : Nat) : Int) - 1, (((c.c1 + 1).toNat : Nat) : Int) - 1, (((c.c2 + 1).toNat : Nat) : Int) - 1, (((c.c3 + 1).toNat : Nat) : Int) - 1, (((c.c4 + 1).toNat : Nat) : Int) - 1, (((c.c5 + 1).toNat : Nat) : Int) - 1, (c.m.toNat : Nat), (c.n.toNat : Nat), c.x, (c.h.toNat : Nat)⟩ : Cx) = c := by
    rw [Cx.ext_iff]
    dsimp only
    refine ⟨?_, ?_, ?_, ?_, ?_, ?_, ?_, ?_, ?_, ?_, ?_, ?_, ?_, ?_, ?_, ?_, rfl, ?_⟩ <;> omega
  rw [e] at h
  exact h
set_option maxRecDepth 100000 in
set_option maxHeartbeats 2000000 in
theorem cSame_any (a b : Cx) (w : World) : Calls Try.prog 26 #[.agg #[.int .u16 a.f, .int .u16 a.i, .int .u8 a.r0, .int .u8 a.r1, .int .u8 a.r2, .int .u8 a.r3, .int .u8 a.r4, .int .u8 a.r5, .int .i8 a.c0, .int .i8 a.c1, .int .i8 a.c2, .int .i8 a.c3, .int .i8 a.c4, .int .i8 a.c5, .int .u8 a.m, .int .u16 a.n, .bool a.x, .int .u8 a.h], .agg #[.int .u16 b.f, .int .u16 b.i, .int .u8 b.r0, .int .u8 b.r1, .int .u8 b.r2, .int .u8 b.r3, .int .u8 b.r4, .int .u8 b.r5, .int .i8 b.c0, .int .i8 b.c1, .int .i8 b.c2, .int .i8 b.c3, .int .i8 b.c4, .int .i8 b.c5, .int .u8 b.m, .int .u16 b.n, .bool b.x, .int .u8 b.h]] w fun e w' => e = .returned (.bool (decide (a = b))) ∧ Below w.heap.size w w' := by
  have he := fun w => eqlCx a b w
  obtain ⟨t, ht⟩ : ∃ t, t = decide (a = b) := ⟨_, rfl⟩
  rw [← ht] at he ⊢
  clear ht
  go_enter Try.func26, Try.ntmps26
  go_wp2_with (first | (refine wpList_load_row rfl 28 _ rfl _ rfl _ _ _ _ (by (first | exact heap_alloc2_new _ _ _ | exact heap_alloc2_old _ _ _ | exact heap_alloc_new _ _ | assumption)) Try.underlying28 rfl (by exact size_cx) ?_; (try go_simp)))
  go_ret
  exact ⟨rfl, by repeat' (first | (with_reducible exact Below.refl _ _) | (with_reducible assumption) | (with_reducible refine Below.setCell ?_ ?_ _) | (with_reducible refine Below.alloc ?_ ?_ _) | (with_reducible refine Below.drew ?_) | (with_reducible refine Below.drawsN ?_ _) | go_size)⟩
end Go.Proofs.Ytpgophkegjeheaa
