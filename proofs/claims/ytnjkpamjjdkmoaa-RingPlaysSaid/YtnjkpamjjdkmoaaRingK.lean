/- Contracts of layer 3 (rings of ints), on: taken out, offered, looked at, made. -/
import Derived.Test.YtnjkpamjjdkmoaaRingJ
namespace Go.Proofs.Ytnjkpamjjdkmoaa
open Go.RowKit Go.Own
set_option linter.unusedVariables false
set_option linter.unusedSimpArgs false
variable {w : World} {g b n f c l d : Nat} {sl : List Int}

set_option maxHeartbeats 1000000 in
theorem iPop_none (h : RingS w g b n f 0 l d sl) : Calls Try.prog 92 #[.pointer (some ⟨g, 0, none⟩)] w fun e w' => e = .returned (.tuple #[.int .i64 0, .bool false]) ∧ w = w' := by
  have H := Lib.hid h
  clear h
  go_enter Try.func92, Try.ntmps92
  go_wp2_with fail
  go_at_call 27
  refine (iLen_any H.out).mono ?_
  rintro e w' ⟨rfl, rfl⟩
  go_wp2
  go_ret2
  exact ⟨rfl, rfl⟩
set_option maxRecDepth 100000 in
set_option maxHeartbeats 1000000 in
theorem iPop_some (h : RingS w g b n f (c + 1) l d sl) : Calls Try.prog 92 #[.pointer (some ⟨g, 0, none⟩)] w fun e w' => e = .returned (.tuple #[.int .i64 (sl.getD f 0), .bool true]) ∧ RingS w' g b n ((f + 1) % n) c l d (sl.set f 0) ∧ Kept g b w w' := by
  have hn1 := h.n1
  have hn2 := h.n2
  have hf := h.hf
  have hcn := h.hc
  obtain ⟨r, hr⟩ : ∃ r, r = (f + 1) % n := ⟨_, rfl⟩
  have hrn : r < n := by rw [hr]; exact Nat.mod_lt _ (by omega)
  obtain ⟨x, hx⟩ : ∃ x, x = sl.getD f 0 := ⟨_, rfl⟩
  have d0 := h.c0
  have d1 := h.c1
  have d3 := h.at hf
  have d4 := h.fb f
  rw [← hx] at d3
  have H := Lib.hid h
  have HR := Lib.hid hr
  have HX := Lib.hid hx
  have hcz : (((c + 1 : Nat) : Int) == 0) = false := by rw [beq_eq_false_iff_ne]; omega
  obtain ⟨cc, hcc⟩ : ∃ cc, cc = c + 1 := ⟨_, rfl⟩
  have HCC := Lib.hid hcc
  have hz : ((cc : Int) == 0) = false := by rw [hcc]; exact hcz
  clear h hr hx hcz
  rw [← hcc] at H
  rw [← hcc] at hcn
  clear hcc
  go_enter Try.func92, Try.ntmps92
  go_wp2_with fail
  go_at_call 27
  refine (iLen_any H.out).mono ?_
  rintro e w' ⟨rfl, rfl⟩
  go_wp2
  go_quiet (fail)
  have h1 := H.out.drewN nq
  have K1 := Lib.hid ((Kept.refl g b w).drewN nq)
  obtain ⟨w1, hw1⟩ : ∃ w1, w1 = w.drewN nq := ⟨_, rfl⟩
  rw [← hw1] at h1 K1
  rw [← hw1]
  clear d0 d1 d3 d4
  have d0 := h1.c0
  have d1 := h1.c1
  have d3 := h1.at hf
  have d4 := h1.fb f
  have H1 := Lib.hid h1
  clear h1 hw1
  go_wp2
  go_region
  have h2 := (H1.out.setSlot f 0).drew
  have K2 := Lib.hid ((K1.out.set (a := ⟨b, f, none⟩) (.inr rfl) (.int .i64 0)).drew)
  obtain ⟨w2, hw2⟩ : ∃ w2, w2 = (w1.setCell ⟨b, f, none⟩ (.int .i64 0)).drew := ⟨_, rfl⟩
  rw [← hw2] at h2 K2
  rw [← hw2]
  have H2 := Lib.hid h2
  clear hw2 h2 d0 d1 d3 d4
  go_wp2_with fail
  go_at_call 97
  refine (islot_any H2.out 1 (by omega)).mono ?_
  rintro e w3 ⟨rfl, q3, rfl⟩
  rw [← HR.out]
  have h3 := H2.out.drewN q3
  have K3 := Lib.hid (K2.out.drewN q3)
  obtain ⟨w3, hw3⟩ : ∃ w3, w3 = w2.drewN q3 := ⟨_, rfl⟩
  rw [← hw3] at h3 K3
  rw [← hw3]
  have d1 := h3.c1
  have d2 := h3.c2
  have f1 := h3.fz 1
  have f2 := h3.fz 2
  have H3 := Lib.hid h3
  clear hw3 h3
  go_wp2
  go_ret2
  have h4 := H3.out.setFirst r hrn
  have h5 := h4.setCount c (by have := HCC.out; omega)
  have hcI : ((cc : Int) - 1) = ((c : Nat) : Int) := by rw [HCC.out]; omega
  refine ⟨by rw [← HX.out]; rfl, ?_, ?_⟩
  · rw [← HR.out, hcI]; exact h5
  · rw [hcI]; exact (K3.out.set (a := ⟨g, 1, none⟩) (.inl rfl) _).set (a := ⟨g, 2, none⟩) (.inl rfl) _
end Go.Proofs.Ytnjkpamjjdkmoaa
