/- Layer 15: bounds and masks. -/
import Derived.Test.YtbomkneajmgckaaCk
import Derived.Test.YtbomkneajmgckaaFlo3
namespace Go.Proofs.Ytbomkneajmgckaa
open Go.RowKit Go.Own
set_option linter.unusedVariables false
set_option linter.unusedSimpArgs false
set_option maxRecDepth 100000 in
set_option maxHeartbeats 4000000 in
theorem walk_CheckBounds (x0 x1 x2 x3 x4 : Int) (w : World) (w0 : (Lit.int .i32 x0).wf = true) (w1 : (Lit.int .i32 x1).wf = true) (w2 : (Lit.int .u8 x2).wf = true) (w3 : (Lit.int .i32 x3).wf = true) (w4 : (Lit.int .i32 x4).wf = true) :
    Calls Try.prog 9 #[.int .i32 x0, .int .i32 x1, .int .u8 x2, .int .i32 x3, .int .i32 x4] w fun e w' => e = .returned (.bool true) ∧ Below w.heap.size w w' := by
  obtain ⟨p0, p1⟩ := bounds_i32 w0
  obtain ⟨q0, q1⟩ := bounds_i32 w1
  obtain ⟨m0, m1⟩ := bounds_u8 w2
  obtain ⟨r0, r1⟩ := bounds_i32 w3
  obtain ⟨s0, s1⟩ := bounds_i32 w4
  clear w0 w1 w2 w3 w4
  have hmn := fun (w : World) => run_minC (P := Try.prog) #[21, 21] 21 .i32 x0 x1 w
  have hmx := fun (w : World) => run_maxC (P := Try.prog) #[21, 21] 21 .i32 x0 x1 w
  obtain ⟨lo, hlo⟩ : ∃ l, l = min x0 x1 := ⟨_, rfl⟩
  obtain ⟨hi, hhi⟩ : ∃ l, l = max x0 x1 := ⟨_, rfl⟩
  rw [← hlo] at hmn
  rw [← hhi] at hmx
  have l0 : -2147483648 ≤ lo := by omega
  have l1 : lo ≤ 2147483647 := by omega
  have h0 : -2147483648 ≤ hi := by omega
  have h1 : hi ≤ 2147483647 := by omega
  have hle : lo ≤ hi := by omega
  have HLE := Lib.hid hle
  clear hlo hhi hle
  have t0 : 0 ≤ x2 % 16 := by omega
  have t1 : x2 % 16 < 16 := by omega
  obtain ⟨p, hp⟩ : ∃ p, p = x2 % 16 := ⟨_, rfl⟩
  rw [← hp] at t0 t1
  have hp2 : x2 % 16 = p := hp.symm
  clear hp
  obtain ⟨dd, hdd⟩ : ∃ dd, dd = x3 - x4 := ⟨_, rfl⟩
  have HDD := Lib.hid hdd
  have hin : ∃ v, limOf lo hi dd = v ∧ (v == 1) = (decide (lo ≤ dd) && decide (dd ≤ hi)) := by
    refine ⟨_, rfl, ?_⟩
    by_cases a : dd < lo
    · rw [lim_lo a]; simp; omega
    by_cases b : hi < dd
    · rw [lim_hi (by omega) b]; simp; omega
    · rw [lim_in (by omega) (by omega)]; simp; omega
  obtain ⟨v, hv, hv1⟩ := hin
  have HV := Lib.hid hv
  have hlo : lo = -2147483648 ∨ ((lo == -2147483648) = false ∧ -2147483648 < lo) := by
    by_cases e : lo = -2147483648
    · exact .inl e
    · exact .inr ⟨by simp [e], by omega⟩
  have hhi : hi = 2147483647 ∨ ((hi == 2147483647) = false ∧ hi < 2147483647) := by
    by_cases e : hi = 2147483647
    · exact .inl e
    · exact .inr ⟨by simp [e], by omega⟩
  have hcase : (dd < lo ∧ (v == 1) = false) ∨ (lo ≤ dd ∧ hi < dd ∧ (v == 1) = false ∧ decide (dd ≤ hi) = false) ∨ (lo ≤ dd ∧ dd ≤ hi ∧ (v == 1) = true) := by
    rw [hv1]
    by_cases a : dd < lo
    · exact .inl ⟨a, by simp; omega⟩
    by_cases b : hi < dd
    · exact .inr (.inl ⟨by omega, b, by simp; omega, by simp; omega⟩)
    · exact .inr (.inr ⟨by omega, by omega, by simp; omega⟩)
  clear hv hv1
  have hsub : x3 - x4 = dd := hdd.symm
  clear hdd
  go_enter Try.func9, Try.ntmps9
  go_wp2_with fail
  go_at_call 43
  refine (awake15 _).mono ?_
  rintro e wb ⟨rfl, hb1⟩
  have HB1 := Lib.hid hb1
  clear hb1
  have hS0 : CkSt w ((wb.alloc (.cells #[.int .u8 0, .int .i64 p, .int .i32 lo, .int .i32 hi, .int .u32 0, .int .u32 0] 92)).alloc (.cells #[.int .u8 2, .int .i64 p, .int .i32 lo, .int .i32 hi, .int .u32 0, .int .u32 0] 92)) wb.heap.size (wb.heap.size + 1) #[.int .u8 0, .int .i64 p, .int .i32 lo, .int .i32 hi, .int .u32 0, .int .u32 0] #[.int .u8 2, .int .i64 p, .int .i32 lo, .int .i32 hi, .int .u32 0, .int .u32 0] 92 92 :=
    ⟨HB1.out.trans (((Below.refl wb.heap.size wb).alloc (Nat.le_refl _) _).alloc (by simp) _ |>.mono HB1.out.size), heap_alloc2_old _ _ _, heap_alloc2_new _ _ _⟩
  have HS := Lib.hid hS0
  clear hS0
  rcases hlo with rfl | ⟨hlo, hlo2⟩ <;> rcases hhi with rfl | ⟨hhi, hhi2⟩
  · rcases hcase with ⟨hc1, hc2⟩ | ⟨hc1, hc2, hc3, hc4⟩ | ⟨hc1, hc2, hc3⟩
    all_goals
      go_wp2_with fail
      skip
      obtain ⟨f, hf⟩ : ∃ f, f = wb.heap.size + 1 := ⟨_, rfl⟩
      obtain ⟨g, hg⟩ : ∃ g, g = wb.heap.size := ⟨_, rfl⟩
      rw [← hf, ← hg] at HS
      rw [← hf, ← hg]
      clear hf hg
      have HL := Lib.hid (Df.ok_of (k := 0) (m := 0) (n := 0) (by decide) (by decide) t0 t1 l0 l1 h0 h1 (by decide) (by decide))
      have HD := Lib.hid (Df.ok_of (k := 2) (m := 0) (n := 0) (by decide) (by decide) t0 t1 l0 l1 h0 h1 (by decide) (by decide))
      skip
      have a0 := cell_of_row _ _ 0 _ _ _ HS.out.ba
      have a1 := cell_of_row _ _ 1 _ _ _ HS.out.ba
      have a2 := cell_of_row _ _ 2 _ _ _ HS.out.ba
      have a3 := cell_of_row _ _ 3 _ _ _ HS.out.ba
      have a4 := cell_of_row _ _ 4 _ _ _ HS.out.ba
      have a5 := cell_of_row _ _ 5 _ _ _ HS.out.ba
      go_wp2_with fail
      go_at_call 46
      refine (Look_at 0 p _ _ 0 0 _ 0 false 1 _ HL.out l0 l1 (by decide) (by decide) ((look_lim t0 t1 HLE.out).trans (lim_in (Int.le_refl _) HLE.out))).mono ?_
      rintro e w' ⟨rfl, hb⟩
      have HS' := Lib.hid (HS.out.step hb)
      clear hb HS a0 a1 a2 a3 a4 a5
      have HS := HS'
      clear HS'
      skip
      have a0 := cell_of_row _ _ 0 _ _ _ HS.out.ba
      have a1 := cell_of_row _ _ 1 _ _ _ HS.out.ba
      have a2 := cell_of_row _ _ 2 _ _ _ HS.out.ba
      have a3 := cell_of_row _ _ 3 _ _ _ HS.out.ba
      have a4 := cell_of_row _ _ 4 _ _ _ HS.out.ba
      have a5 := cell_of_row _ _ 5 _ _ _ HS.out.ba
      go_wp2_with fail
      go_at_call 46
      refine (Look_at 0 p _ _ 0 0 _ 0 false 1 _ HL.out h0 h1 (by decide) (by decide) ((look_lim t0 t1 HLE.out).trans (lim_in HLE.out (Int.le_refl _)))).mono ?_
      rintro e w' ⟨rfl, hb⟩
      have HS' := Lib.hid (HS.out.step hb)
      clear hb HS a0 a1 a2 a3 a4 a5
      have HS := HS'
      clear HS'
      skip
      skip
      skip
      have a0 := cell_of_row _ _ 0 _ _ _ HS.out.bb
      have a1 := cell_of_row _ _ 1 _ _ _ HS.out.bb
      have a2 := cell_of_row _ _ 2 _ _ _ HS.out.bb
      have a3 := cell_of_row _ _ 3 _ _ _ HS.out.bb
      have a4 := cell_of_row _ _ 4 _ _ _ HS.out.bb
      have a5 := cell_of_row _ _ 5 _ _ _ HS.out.bb
      go_wp2_with fail
      go_at_call 46
      refine (Look_at 2 p _ _ 0 0 x3 x4 false v _ HD.out r0 r1 s0 s1 ((look_delta t0 t1 HLE.out).trans (by rw [hsub]; exact HV.out))).mono ?_
      rintro e w' ⟨rfl, hb⟩
      have HS' := Lib.hid (HS.out.step hb)
      clear hb HS a0 a1 a2 a3 a4 a5
      have HS := HS'
      clear HS'
      skip
      have a0 := cell_of_row _ _ 0 _ _ _ HS.out.bb
      have a1 := cell_of_row _ _ 1 _ _ _ HS.out.bb
      have a2 := cell_of_row _ _ 2 _ _ _ HS.out.bb
      have a3 := cell_of_row _ _ 3 _ _ _ HS.out.bb
      have a4 := cell_of_row _ _ 4 _ _ _ HS.out.bb
      have a5 := cell_of_row _ _ 5 _ _ _ HS.out.bb
      go_wp2_with fail
      go_at_call 46
      refine (Look_at 2 p _ _ 0 0 x3 x4 true 0 _ HD.out r0 r1 s0 s1 look_first).mono ?_
      rintro e w' ⟨rfl, hb⟩
      have HS' := Lib.hid (HS.out.step hb)
      clear hb HS a0 a1 a2 a3 a4 a5
      have HS := HS'
      clear HS'
      go_wp2
      go_ret
      exact ⟨rfl, HS.out.be⟩
  · rcases hcase with ⟨hc1, hc2⟩ | ⟨hc1, hc2, hc3, hc4⟩ | ⟨hc1, hc2, hc3⟩
    all_goals
      go_wp2_with fail
      skip
      obtain ⟨f, hf⟩ : ∃ f, f = wb.heap.size + 1 := ⟨_, rfl⟩
      obtain ⟨g, hg⟩ : ∃ g, g = wb.heap.size := ⟨_, rfl⟩
      rw [← hf, ← hg] at HS
      rw [← hf, ← hg]
      clear hf hg
      have HL := Lib.hid (Df.ok_of (k := 0) (m := 0) (n := 0) (by decide) (by decide) t0 t1 l0 l1 h0 h1 (by decide) (by decide))
      have HD := Lib.hid (Df.ok_of (k := 2) (m := 0) (n := 0) (by decide) (by decide) t0 t1 l0 l1 h0 h1 (by decide) (by decide))
      skip
      have a0 := cell_of_row _ _ 0 _ _ _ HS.out.ba
      have a1 := cell_of_row _ _ 1 _ _ _ HS.out.ba
      have a2 := cell_of_row _ _ 2 _ _ _ HS.out.ba
      have a3 := cell_of_row _ _ 3 _ _ _ HS.out.ba
      have a4 := cell_of_row _ _ 4 _ _ _ HS.out.ba
      have a5 := cell_of_row _ _ 5 _ _ _ HS.out.ba
      go_wp2_with fail
      go_at_call 46
      refine (Look_at 0 p _ _ 0 0 _ 0 false 1 _ HL.out l0 l1 (by decide) (by decide) ((look_lim t0 t1 HLE.out).trans (lim_in (Int.le_refl _) HLE.out))).mono ?_
      rintro e w' ⟨rfl, hb⟩
      have HS' := Lib.hid (HS.out.step hb)
      clear hb HS a0 a1 a2 a3 a4 a5
      have HS := HS'
      clear HS'
      skip
      have a0 := cell_of_row _ _ 0 _ _ _ HS.out.ba
      have a1 := cell_of_row _ _ 1 _ _ _ HS.out.ba
      have a2 := cell_of_row _ _ 2 _ _ _ HS.out.ba
      have a3 := cell_of_row _ _ 3 _ _ _ HS.out.ba
      have a4 := cell_of_row _ _ 4 _ _ _ HS.out.ba
      have a5 := cell_of_row _ _ 5 _ _ _ HS.out.ba
      go_wp2_with fail
      go_at_call 46
      refine (Look_at 0 p _ _ 0 0 _ 0 false 1 _ HL.out h0 h1 (by decide) (by decide) ((look_lim t0 t1 HLE.out).trans (lim_in HLE.out (Int.le_refl _)))).mono ?_
      rintro e w' ⟨rfl, hb⟩
      have HS' := Lib.hid (HS.out.step hb)
      clear hb HS a0 a1 a2 a3 a4 a5
      have HS := HS'
      clear HS'
      skip
      skip
      have a0 := cell_of_row _ _ 0 _ _ _ HS.out.ba
      have a1 := cell_of_row _ _ 1 _ _ _ HS.out.ba
      have a2 := cell_of_row _ _ 2 _ _ _ HS.out.ba
      have a3 := cell_of_row _ _ 3 _ _ _ HS.out.ba
      have a4 := cell_of_row _ _ 4 _ _ _ HS.out.ba
      have a5 := cell_of_row _ _ 5 _ _ _ HS.out.ba
      go_wp2_with fail
      go_at_call 46
      refine (Look_at 0 p _ _ 0 0 (hi + 1) 0 false 3 _ HL.out (by omega) (by omega) (by decide) (by decide) ((look_lim t0 t1 HLE.out).trans (lim_hi (by have := HLE.out; omega) (by omega)))).mono ?_
      rintro e w' ⟨rfl, hb⟩
      have HS' := Lib.hid (HS.out.step hb)
      clear hb HS a0 a1 a2 a3 a4 a5
      have HS := HS'
      clear HS'
      skip
      skip
      have a0 := cell_of_row _ _ 0 _ _ _ HS.out.bb
      have a1 := cell_of_row _ _ 1 _ _ _ HS.out.bb
      have a2 := cell_of_row _ _ 2 _ _ _ HS.out.bb
      have a3 := cell_of_row _ _ 3 _ _ _ HS.out.bb
      have a4 := cell_of_row _ _ 4 _ _ _ HS.out.bb
      have a5 := cell_of_row _ _ 5 _ _ _ HS.out.bb
      go_wp2_with fail
      go_at_call 46
      refine (Look_at 2 p _ _ 0 0 x3 x4 false v _ HD.out r0 r1 s0 s1 ((look_delta t0 t1 HLE.out).trans (by rw [hsub]; exact HV.out))).mono ?_
      rintro e w' ⟨rfl, hb⟩
      have HS' := Lib.hid (HS.out.step hb)
      clear hb HS a0 a1 a2 a3 a4 a5
      have HS := HS'
      clear HS'
      skip
      have a0 := cell_of_row _ _ 0 _ _ _ HS.out.bb
      have a1 := cell_of_row _ _ 1 _ _ _ HS.out.bb
      have a2 := cell_of_row _ _ 2 _ _ _ HS.out.bb
      have a3 := cell_of_row _ _ 3 _ _ _ HS.out.bb
      have a4 := cell_of_row _ _ 4 _ _ _ HS.out.bb
      have a5 := cell_of_row _ _ 5 _ _ _ HS.out.bb
      go_wp2_with fail
      go_at_call 46
      refine (Look_at 2 p _ _ 0 0 x3 x4 true 0 _ HD.out r0 r1 s0 s1 look_first).mono ?_
      rintro e w' ⟨rfl, hb⟩
      have HS' := Lib.hid (HS.out.step hb)
      clear hb HS a0 a1 a2 a3 a4 a5
      have HS := HS'
      clear HS'
      go_wp2
      go_ret
      exact ⟨rfl, HS.out.be⟩
  · rcases hcase with ⟨hc1, hc2⟩ | ⟨hc1, hc2, hc3, hc4⟩ | ⟨hc1, hc2, hc3⟩
    all_goals
      go_wp2_with fail
      skip
      obtain ⟨f, hf⟩ : ∃ f, f = wb.heap.size + 1 := ⟨_, rfl⟩
      obtain ⟨g, hg⟩ : ∃ g, g = wb.heap.size := ⟨_, rfl⟩
      rw [← hf, ← hg] at HS
      rw [← hf, ← hg]
      clear hf hg
      have HL := Lib.hid (Df.ok_of (k := 0) (m := 0) (n := 0) (by decide) (by decide) t0 t1 l0 l1 h0 h1 (by decide) (by decide))
      have HD := Lib.hid (Df.ok_of (k := 2) (m := 0) (n := 0) (by decide) (by decide) t0 t1 l0 l1 h0 h1 (by decide) (by decide))
      skip
      have a0 := cell_of_row _ _ 0 _ _ _ HS.out.ba
      have a1 := cell_of_row _ _ 1 _ _ _ HS.out.ba
      have a2 := cell_of_row _ _ 2 _ _ _ HS.out.ba
      have a3 := cell_of_row _ _ 3 _ _ _ HS.out.ba
      have a4 := cell_of_row _ _ 4 _ _ _ HS.out.ba
      have a5 := cell_of_row _ _ 5 _ _ _ HS.out.ba
      go_wp2_with fail
      go_at_call 46
      refine (Look_at 0 p _ _ 0 0 _ 0 false 1 _ HL.out l0 l1 (by decide) (by decide) ((look_lim t0 t1 HLE.out).trans (lim_in (Int.le_refl _) HLE.out))).mono ?_
      rintro e w' ⟨rfl, hb⟩
      have HS' := Lib.hid (HS.out.step hb)
      clear hb HS a0 a1 a2 a3 a4 a5
      have HS := HS'
      clear HS'
      skip
      have a0 := cell_of_row _ _ 0 _ _ _ HS.out.ba
      have a1 := cell_of_row _ _ 1 _ _ _ HS.out.ba
      have a2 := cell_of_row _ _ 2 _ _ _ HS.out.ba
      have a3 := cell_of_row _ _ 3 _ _ _ HS.out.ba
      have a4 := cell_of_row _ _ 4 _ _ _ HS.out.ba
      have a5 := cell_of_row _ _ 5 _ _ _ HS.out.ba
      go_wp2_with fail
      go_at_call 46
      refine (Look_at 0 p _ _ 0 0 _ 0 false 1 _ HL.out h0 h1 (by decide) (by decide) ((look_lim t0 t1 HLE.out).trans (lim_in HLE.out (Int.le_refl _)))).mono ?_
      rintro e w' ⟨rfl, hb⟩
      have HS' := Lib.hid (HS.out.step hb)
      clear hb HS a0 a1 a2 a3 a4 a5
      have HS := HS'
      clear HS'
      skip
      skip
      have a0 := cell_of_row _ _ 0 _ _ _ HS.out.ba
      have a1 := cell_of_row _ _ 1 _ _ _ HS.out.ba
      have a2 := cell_of_row _ _ 2 _ _ _ HS.out.ba
      have a3 := cell_of_row _ _ 3 _ _ _ HS.out.ba
      have a4 := cell_of_row _ _ 4 _ _ _ HS.out.ba
      have a5 := cell_of_row _ _ 5 _ _ _ HS.out.ba
      go_wp2_with fail
      go_at_call 46
      refine (Look_at 0 p _ _ 0 0 (lo - 1) 0 false 2 _ HL.out (by omega) (by omega) (by decide) (by decide) ((look_lim t0 t1 HLE.out).trans (lim_lo (by omega)))).mono ?_
      rintro e w' ⟨rfl, hb⟩
      have HS' := Lib.hid (HS.out.step hb)
      clear hb HS a0 a1 a2 a3 a4 a5
      have HS := HS'
      clear HS'
      skip
      skip
      have a0 := cell_of_row _ _ 0 _ _ _ HS.out.bb
      have a1 := cell_of_row _ _ 1 _ _ _ HS.out.bb
      have a2 := cell_of_row _ _ 2 _ _ _ HS.out.bb
      have a3 := cell_of_row _ _ 3 _ _ _ HS.out.bb
      have a4 := cell_of_row _ _ 4 _ _ _ HS.out.bb
      have a5 := cell_of_row _ _ 5 _ _ _ HS.out.bb
      go_wp2_with fail
      go_at_call 46
      refine (Look_at 2 p _ _ 0 0 x3 x4 false v _ HD.out r0 r1 s0 s1 ((look_delta t0 t1 HLE.out).trans (by rw [hsub]; exact HV.out))).mono ?_
      rintro e w' ⟨rfl, hb⟩
      have HS' := Lib.hid (HS.out.step hb)
      clear hb HS a0 a1 a2 a3 a4 a5
      have HS := HS'
      clear HS'
      skip
      have a0 := cell_of_row _ _ 0 _ _ _ HS.out.bb
      have a1 := cell_of_row _ _ 1 _ _ _ HS.out.bb
      have a2 := cell_of_row _ _ 2 _ _ _ HS.out.bb
      have a3 := cell_of_row _ _ 3 _ _ _ HS.out.bb
      have a4 := cell_of_row _ _ 4 _ _ _ HS.out.bb
      have a5 := cell_of_row _ _ 5 _ _ _ HS.out.bb
      go_wp2_with fail
      go_at_call 46
      refine (Look_at 2 p _ _ 0 0 x3 x4 true 0 _ HD.out r0 r1 s0 s1 look_first).mono ?_
      rintro e w' ⟨rfl, hb⟩
      have HS' := Lib.hid (HS.out.step hb)
      clear hb HS a0 a1 a2 a3 a4 a5
      have HS := HS'
      clear HS'
      go_wp2
      go_ret
      exact ⟨rfl, HS.out.be⟩
  · rcases hcase with ⟨hc1, hc2⟩ | ⟨hc1, hc2, hc3, hc4⟩ | ⟨hc1, hc2, hc3⟩
    all_goals
      go_wp2_with fail
      skip
      obtain ⟨f, hf⟩ : ∃ f, f = wb.heap.size + 1 := ⟨_, rfl⟩
      obtain ⟨g, hg⟩ : ∃ g, g = wb.heap.size := ⟨_, rfl⟩
      rw [← hf, ← hg] at HS
      rw [← hf, ← hg]
      clear hf hg
      have HL := Lib.hid (Df.ok_of (k := 0) (m := 0) (n := 0) (by decide) (by decide) t0 t1 l0 l1 h0 h1 (by decide) (by decide))
      have HD := Lib.hid (Df.ok_of (k := 2) (m := 0) (n := 0) (by decide) (by decide) t0 t1 l0 l1 h0 h1 (by decide) (by decide))
      skip
      have a0 := cell_of_row _ _ 0 _ _ _ HS.out.ba
      have a1 := cell_of_row _ _ 1 _ _ _ HS.out.ba
      have a2 := cell_of_row _ _ 2 _ _ _ HS.out.ba
      have a3 := cell_of_row _ _ 3 _ _ _ HS.out.ba
      have a4 := cell_of_row _ _ 4 _ _ _ HS.out.ba
      have a5 := cell_of_row _ _ 5 _ _ _ HS.out.ba
      go_wp2_with fail
      go_at_call 46
      refine (Look_at 0 p _ _ 0 0 _ 0 false 1 _ HL.out l0 l1 (by decide) (by decide) ((look_lim t0 t1 HLE.out).trans (lim_in (Int.le_refl _) HLE.out))).mono ?_
      rintro e w' ⟨rfl, hb⟩
      have HS' := Lib.hid (HS.out.step hb)
      clear hb HS a0 a1 a2 a3 a4 a5
      have HS := HS'
      clear HS'
      skip
      have a0 := cell_of_row _ _ 0 _ _ _ HS.out.ba
      have a1 := cell_of_row _ _ 1 _ _ _ HS.out.ba
      have a2 := cell_of_row _ _ 2 _ _ _ HS.out.ba
      have a3 := cell_of_row _ _ 3 _ _ _ HS.out.ba
      have a4 := cell_of_row _ _ 4 _ _ _ HS.out.ba
      have a5 := cell_of_row _ _ 5 _ _ _ HS.out.ba
      go_wp2_with fail
      go_at_call 46
      refine (Look_at 0 p _ _ 0 0 _ 0 false 1 _ HL.out h0 h1 (by decide) (by decide) ((look_lim t0 t1 HLE.out).trans (lim_in HLE.out (Int.le_refl _)))).mono ?_
      rintro e w' ⟨rfl, hb⟩
      have HS' := Lib.hid (HS.out.step hb)
      clear hb HS a0 a1 a2 a3 a4 a5
      have HS := HS'
      clear HS'
      skip
      skip
      skip
      have a0 := cell_of_row _ _ 0 _ _ _ HS.out.ba
      have a1 := cell_of_row _ _ 1 _ _ _ HS.out.ba
      have a2 := cell_of_row _ _ 2 _ _ _ HS.out.ba
      have a3 := cell_of_row _ _ 3 _ _ _ HS.out.ba
      have a4 := cell_of_row _ _ 4 _ _ _ HS.out.ba
      have a5 := cell_of_row _ _ 5 _ _ _ HS.out.ba
      go_wp2_with fail
      go_at_call 46
      refine (Look_at 0 p _ _ 0 0 (lo - 1) 0 false 2 _ HL.out (by omega) (by omega) (by decide) (by decide) ((look_lim t0 t1 HLE.out).trans (lim_lo (by omega)))).mono ?_
      rintro e w' ⟨rfl, hb⟩
      have HS' := Lib.hid (HS.out.step hb)
      clear hb HS a0 a1 a2 a3 a4 a5
      have HS := HS'
      clear HS'
      skip
      skip
      have a0 := cell_of_row _ _ 0 _ _ _ HS.out.ba
      have a1 := cell_of_row _ _ 1 _ _ _ HS.out.ba
      have a2 := cell_of_row _ _ 2 _ _ _ HS.out.ba
      have a3 := cell_of_row _ _ 3 _ _ _ HS.out.ba
      have a4 := cell_of_row _ _ 4 _ _ _ HS.out.ba
      have a5 := cell_of_row _ _ 5 _ _ _ HS.out.ba
      go_wp2_with fail
      go_at_call 46
      refine (Look_at 0 p _ _ 0 0 (hi + 1) 0 false 3 _ HL.out (by omega) (by omega) (by decide) (by decide) ((look_lim t0 t1 HLE.out).trans (lim_hi (by have := HLE.out; omega) (by omega)))).mono ?_
      rintro e w' ⟨rfl, hb⟩
      have HS' := Lib.hid (HS.out.step hb)
      clear hb HS a0 a1 a2 a3 a4 a5
      have HS := HS'
      clear HS'
      skip
      skip
      have a0 := cell_of_row _ _ 0 _ _ _ HS.out.bb
      have a1 := cell_of_row _ _ 1 _ _ _ HS.out.bb
      have a2 := cell_of_row _ _ 2 _ _ _ HS.out.bb
      have a3 := cell_of_row _ _ 3 _ _ _ HS.out.bb
      have a4 := cell_of_row _ _ 4 _ _ _ HS.out.bb
      have a5 := cell_of_row _ _ 5 _ _ _ HS.out.bb
      go_wp2_with fail
      go_at_call 46
      refine (Look_at 2 p _ _ 0 0 x3 x4 false v _ HD.out r0 r1 s0 s1 ((look_delta t0 t1 HLE.out).trans (by rw [hsub]; exact HV.out))).mono ?_
      rintro e w' ⟨rfl, hb⟩
      have HS' := Lib.hid (HS.out.step hb)
      clear hb HS a0 a1 a2 a3 a4 a5
      have HS := HS'
      clear HS'
      skip
      have a0 := cell_of_row _ _ 0 _ _ _ HS.out.bb
      have a1 := cell_of_row _ _ 1 _ _ _ HS.out.bb
      have a2 := cell_of_row _ _ 2 _ _ _ HS.out.bb
      have a3 := cell_of_row _ _ 3 _ _ _ HS.out.bb
      have a4 := cell_of_row _ _ 4 _ _ _ HS.out.bb
      have a5 := cell_of_row _ _ 5 _ _ _ HS.out.bb
      go_wp2_with fail
      go_at_call 46
      refine (Look_at 2 p _ _ 0 0 x3 x4 true 0 _ HD.out r0 r1 s0 s1 look_first).mono ?_
      rintro e w' ⟨rfl, hb⟩
      have HS' := Lib.hid (HS.out.step hb)
      clear hb HS a0 a1 a2 a3 a4 a5
      have HS := HS'
      clear HS'
      go_wp2
      go_ret
      exact ⟨rfl, HS.out.be⟩
end Go.Proofs.Ytbomkneajmgckaa
