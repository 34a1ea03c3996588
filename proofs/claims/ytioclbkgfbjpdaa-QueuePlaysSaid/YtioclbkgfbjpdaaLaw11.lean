/- Layer 11: the document's example; a nil queue. -/
import Derived.Test.YtioclbkgfbjpdaaQu3
import Derived.Test.YtioclbkgfbjpdaaByt
namespace Go.Proofs.Ytioclbkgfbjpdaa
open Go.RowKit Go.Own
set_option linter.unusedVariables false
set_option linter.unusedSimpArgs false
set_option maxRecDepth 100000 in
set_option maxHeartbeats 2000000 in
theorem awake11 (w : World) : Calls Try.prog 17 #[] w fun e w' => e = .returned (.bool true) ∧ Below w.heap.size w w' := by
  go_enter Try.func17, Try.ntmps17
  go_wp2_with fail
  go_at_call 18
  refine (qNew_ok 1 w (by omega) (by omega)).mono ?_
  rintro e w1 ⟨gq, g, b, rfl, hq, h1, h2, h3, hb1⟩
  have hs1 := hb1.size
  have hal : Below w1.heap.size w1 (w1.alloc (.cells #[.int .u8 4] 5)) := (Below.refl _ _).alloc (Nat.le_refl _) _
  have hq2 := Lib.hid (hq.below hal (Nat.le_refl _))
  have HB2 := Lib.hid (hb1.trans (hal.mono hs1))
  have hsz : (w1.alloc (.cells #[.int .u8 4] 5)).heap.size = w1.heap.size + 1 := by simp
  have hrd : Rd (w1.alloc (.cells #[.int .u8 4] 5)).heap.size (w1.alloc (.cells #[.int .u8 4] 5)) (some ⟨w1.heap.size, 0, none⟩) 1 1 (bv [4]) :=
    ⟨Nat.le_refl _, by unfold maxLen; omega, fun h => (by cases h), fun _ => ⟨w1.heap.size, 0, rfl, by simp, fun i hi => by
      obtain rfl : i = 0 := by omega
      exact cell_of_row _ _ 0 _ _ _ (heap_alloc_new w1 _)⟩⟩
  have HRD := Lib.hid hrd
  clear hq hal hb1 hrd
  go_wp2_with fail
  obtain ⟨w2, hw2⟩ : ∃ w2, w2 = w1.alloc (.cells #[.int .u8 4] 5) := ⟨_, rfl⟩
  rw [← hw2] at hq2 HB2 HRD hsz
  rw [← hw2]
  clear hw2
  go_at_call 23
  refine (qPut_room hq2.out (by omega) (by decide) 1 2 3 (by omega) (by omega) (by omega) _ 1 1 [4] rfl (by intro x hx; simp at hx; omega) HRD.out (by omega)).mono ?_
  rintro e w3 ⟨rfl, r, _, hq3, hk3⟩
  have HQ3 := Lib.hid hq3
  have HB3 := Lib.hid (HB2.out.trans (hk3.below (by omega) (by omega) (by omega) HB2.out.size))
  have hs3 : w2.heap.size ≤ w3.heap.size := hk3.size
  have hs2 := HB2.out.size
  have hw23 : w.heap.size ≤ w3.heap.size := Nat.le_trans hs2 hs3
  clear hq3 hk3 hq2 HB2
  go_wp2_with fail
  go_at_call 23
  refine (qPut_full HQ3.out (by omega) rfl 1 2 3 (by omega) (by omega) (by omega) none 0 0 [] rfl (by intro x hx; simp at hx) (Rd.none_ _ _ _) (by omega)).mono ?_
  rintro e w4 ⟨rfl, hq4, hk4⟩
  have HQ4 := Lib.hid hq4
  have HB4 := Lib.hid (HB3.out.trans (hk4.below (by omega) (by omega) (by omega) hw23))
  clear hq4 hk4 HQ3 HB3
  go_wp2_with fail
  go_at_call 24
  refine (qLen HQ4.out).mono ?_
  rintro e w' ⟨rfl, rfl⟩
  go_wp2_with fail
  go_at_call 25
  refine (qDropped HQ4.out).mono ?_
  rintro e w' ⟨rfl, rfl⟩
  go_wp2
  go_ret
  exact ⟨rfl, HB4.out⟩
set_option maxHeartbeats 1000000 in
theorem zqLen (w : World) : Calls Try.prog 24 #[.pointer none] w fun e w' => e = .returned (.int .i64 0) ∧ w = w' := by
  go_enter Try.func24, Try.ntmps24
  go_wp2
  go_ret
  exact ⟨rfl, rfl⟩
set_option maxHeartbeats 1000000 in
theorem zqDropped (w : World) : Calls Try.prog 25 #[.pointer none] w fun e w' => e = .returned (.int .i64 0) ∧ w = w' := by
  go_enter Try.func25, Try.ntmps25
  go_wp2
  go_ret
  exact ⟨rfl, rfl⟩
set_option maxHeartbeats 1000000 in
theorem zqCount (w : World) : Calls Try.prog 26 #[.pointer none] w fun e w' => e = .returned (.int .u16 0) ∧ w = w' := by
  go_enter Try.func26, Try.ntmps26
  go_wp2
  go_ret
  exact ⟨rfl, rfl⟩
set_option maxHeartbeats 1000000 in
theorem zqPut (s u t d : Value) (w : World) : Calls Try.prog 23 #[.pointer none, s, u, t, d] w fun e w' => e = .returned (.bool false) ∧ w = w' := by
  go_enter Try.func23, Try.ntmps23
  go_wp2
  go_ret
  exact ⟨rfl, rfl⟩
set_option maxHeartbeats 1000000 in
theorem zqAll (w : World) : Calls Try.prog 27 #[.pointer none] w fun e w' => e = .returned (.slice none 0 0) ∧ w = w' := by
  go_enter Try.func27, Try.ntmps27
  go_wp2_with (go_at_call 24; refine (zqLen _).mono ?_; rintro e w' ⟨rfl, rfl⟩)
  refine wp_loop_rounds 1 ?_
  rw [rounds_succ]
  go_wp2
  go_ret
  exact ⟨rfl, rfl⟩
set_option maxHeartbeats 1000000 in
theorem zqTake (n : Int) (w : World) : Calls Try.prog 22 #[.pointer none, .int .i64 n] w fun e w' => e = .returned (.slice none 0 0) ∧ w = w' := by
  have hmn := fun (w : World) => run_minI (P := Try.prog) #[3, 3] 3 .i64 n 0 w
  obtain ⟨z, hz⟩ : ∃ z, z = min n 0 := ⟨_, rfl⟩
  rw [← hz] at hmn
  have hz0 : ¬ 0 < z := by omega
  clear hz
  go_enter Try.func22, Try.ntmps22
  go_wp2_with (go_at_call 24; refine (zqLen _).mono ?_; rintro e w' ⟨rfl, rfl⟩)
  refine wp_loop_rounds 1 ?_
  rw [rounds_succ]
  go_wp2
  go_ret
  exact ⟨rfl, rfl⟩
end Go.Proofs.Ytioclbkgfbjpdaa
