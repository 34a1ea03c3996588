/- Layer 23: the document's dipole. -/
import Derived.Test.YtinaimacocgemaaSt
namespace Go.Proofs.Ytinaimacocgemaa
open Go.RowKit Go.Own
set_option linter.unusedVariables false
set_option linter.unusedSimpArgs false
/-- Boxes that a call made, one behind the other. -/
structure Bxs (w wr : World) (bs : List (Array Value × TypeId)) : Prop where
  be : Below w.heap.size w wr
  at_ : ∀ i A t, bs[i]? = some (A, t) → wr.heap[w.heap.size + i]? = some (.cells A t (0, 0))
theorem Bxs.nil (w : World) : Bxs w w [] := ⟨Below.refl _ _, by simp⟩
theorem Bxs.step {w wr w' : World} {bs : List (Array Value × TypeId)} (h : Bxs w wr bs) (hb : Below wr.heap.size wr w') : Bxs w w' bs :=
  ⟨h.be.trans (hb.mono h.be.size), fun i A t hi => have := h.at_ i A t hi; box_below this hb (box_lt this)⟩
theorem Bxs.add {w wr : World} {bs : List (Array Value × TypeId)} (h : Bxs w wr bs) (hs : wr.heap.size = w.heap.size + bs.length) (A : Array Value) (t : TypeId) : Bxs w (wr.alloc (.cells A t)) (bs ++ [(A, t)]) :=
  ⟨h.be.alloc (by have := h.be.size; omega) _, fun i B u hi => by
    rcases Nat.lt_or_ge i bs.length with hl | hl
    · rw [List.getElem?_append_left hl] at hi
      have := h.at_ i B u hi
      exact (Below.heap_alloc _ _ _ (box_lt this)).trans this
    · rw [List.getElem?_append_right hl] at hi
      have e : i = bs.length := by
        rcases Nat.lt_or_ge (i - bs.length) 1 with h1 | h1
        · omega
        · rw [List.getElem?_eq_none (by simpa using h1)] at hi; exact absurd hi (by simp)
      subst e
      simp at hi
      obtain ⟨rfl, rfl⟩ := hi
      rw [← hs]
      exact heap_alloc_new wr _⟩
theorem Bxs.put {w wr : World} {bs : List (Array Value × TypeId)} (h : Bxs w wr bs) (i : Nat) {A : Array Value} {t : TypeId} (hi : bs[i]? = some (A, t)) (B : Array Value) : Bxs w (wr.setRow (w.heap.size + i) B) (bs.set i (B, t)) :=
  ⟨bel_rowV h.be (by omega) B, fun j C u hj => by
    by_cases e : i = j
    · subst e
      rw [List.getElem?_set_self (List.getElem?_eq_some_iff.1 hi).1] at hj
      simp at hj
      obtain ⟨rfl, rfl⟩ := hj
      exact setRow_heap _ _ _ _ _ _ (h.at_ i A _ hi)
    · rw [List.getElem?_set_ne e] at hj
      exact (setRow_other _ _ _ _ (by omega)).trans (h.at_ j C u hj)⟩
theorem Bxs.set {w wr : World} {bs : List (Array Value × TypeId)} (h : Bxs w wr bs) (i : Nat) {A : Array Value} {t : TypeId} (hi : bs[i]? = some (A, t)) (k : Nat) (v : Value) : Bxs w (wr.setCell ⟨w.heap.size + i, k, none⟩ v) (bs.set i (A.setIfInBounds k v, t)) :=
  ⟨Below.setCell h.be (by show w.heap.size ≤ w.heap.size + i; omega) _, fun j C u hj => by
    by_cases e : i = j
    · subst e
      rw [List.getElem?_set_self (List.getElem?_eq_some_iff.1 hi).1] at hj
      simp at hj
      obtain ⟨rfl, rfl⟩ := hj
      exact heap_setCell_same _ _ _ _ _ _ (h.at_ i A _ hi)
    · rw [List.getElem?_set_ne e] at hj
      exact (heap_setCell_other _ _ _ _ (by show w.heap.size + j ≠ w.heap.size + i; omega)).trans (h.at_ j C u hj)⟩
set_option maxHeartbeats 400000 in
theorem times_any (a k q : Int) (w : World) (ha : -2147483648 ≤ a) (ha' : a ≤ 2147483647) (hk : -2147483648 ≤ k) (hk' : k ≤ 2147483647) :
    Calls Try.prog 103 #[.int .i64 a, .int .i64 k, .int .i64 q] w fun e w' => e = .returned (.int .i64 (Fx.sat (a * k / Fx.pw q))) ∧ w = w' := by
  have p0 := Fx.pw_pos q
  have p1 := Fx.pw_hi q
  have m0 := mul_fine a k ha ha' hk hk'
  have d0 := Fx.ediv_bd (a * k) (Fx.pw q) 4611686018427387904 p0 (by omega) (by omega)
  have s0 := Fx.sat_lo (a * k / Fx.pw q)
  have s1 := Fx.sat_hi (a * k / Fx.pw q)
  go_enter Try.func103, Try.ntmps103
  go_wp2_with (first | (go_at_call 120; (refine (Power_any _ _).mono ?_); rintro e w' ⟨rfl, rfl⟩) | (go_at_call 104; (refine (Down_any _ _ _ (by omega) (by omega) (by omega) (by omega)).mono ?_); rintro e w' ⟨rfl, rfl⟩) | (go_at_call 101; (refine (rSat_any _ _ (by omega) (by omega)).mono ?_); rintro e w' ⟨rfl, rfl⟩))
  go_ret
  exact ⟨rfl, rfl⟩
set_option maxHeartbeats 400000 in
theorem rclamp_any (n m : Int) (w : World) (hn : -2147483648 ≤ n) (hn' : n ≤ 2147483647) (hm : -2147483648 ≤ m) (hm' : m ≤ 2147483647) :
    Calls Try.prog 102 #[.int .i64 n, .int .i32 m] w fun e w' => e = .returned (.int .i32 (Fx.clamp n (-(max m 0)) (max m 0))) ∧ w = w' := by
  rcases (by omega : m < 0 ∨ 0 ≤ m) with h | h
  · rw [show max m 0 = 0 by omega]
    go_enter Try.func102, Try.ntmps102
    go_wp2
    all_goals
      go_ret
      exact ⟨ret_int (by unfold Fx.clamp; (try split) <;> (try split) <;> omega), rfl⟩
  · rw [show max m 0 = m by omega]
    go_enter Try.func102, Try.ntmps102
    go_wp2
    all_goals
      go_ret
      exact ⟨ret_int (by unfold Fx.clamp; (try split) <;> (try split) <;> omega), rfl⟩
theorem Bxs.four (w : World) (A B C D : Array Value) (t u v x : TypeId) : Bxs w ((((w.alloc (.cells A t)).alloc (.cells B u)).alloc (.cells C v)).alloc (.cells D x)) [(A, t), (B, u), (C, v), (D, x)] :=
  ((((Bxs.nil w).add rfl A t).add (by simp) B u).add (by simp) C v).add (by simp) D x
theorem bel_drewV (w : World) (n : Nat) : Below w.heap.size w (w.drewN n) := ⟨rfl, rfl, rfl, Nat.le_refl _, fun _ _ => rfl⟩
set_option maxRecDepth 100000 in
set_option maxHeartbeats 2000000 in
theorem rBdot_any (a l : Nat → Int) (g q m : Int) (w : World) (ha : In3 a) (hl : In3 l) (hg0 : -2147483648 ≤ g) (hg1 : g ≤ 2147483647) (hm0 : -2147483648 ≤ m) (hm1 : m ≤ 2147483647) :
    Calls Try.prog 59 #[.agg #[.int .i32 (a 0), .int .i32 (a 1), .int .i32 (a 2)], .agg #[.int .i32 (l 0), .int .i32 (l 1), .int .i32 (l 2)], .int .i32 g, .int .i64 q, .int .i32 m] w fun e w' => e = .returned (.agg #[.int .i32 (bdF a l g q m 0), .int .i32 (bdF a l g q m 1), .int .i32 (bdF a l g q m 2)]) ∧ Below w.heap.size w w' := by
  have hz := zero_vcS
  have HV := Lib.hid (Bxs.four w #[.int .i32 (a 0), .int .i32 (a 1), .int .i32 (a 2)] #[.int .i32 (l 0), .int .i32 (l 1), .int .i32 (l 2)] #[.int .i32 0, .int .i32 0, .int .i32 0] #[.int .i32 0, .int .i32 0, .int .i32 0] 23 23 23 23)
  have HA := Lib.hid ha
  have HL := Lib.hid hl
  clear ha hl
  go_enter Try.func59, Try.ntmps59
  go_upto_region 2 with fail
  obtain ⟨w1, hw1⟩ : ∃ w1, w1 = (((w.alloc (.cells #[.int .i32 (a 0), .int .i32 (a 1), .int .i32 (a 2)] 23)).alloc (.cells #[.int .i32 (l 0), .int .i32 (l 1), .int .i32 (l 2)] 23)).alloc (.cells #[.int .i32 0, .int .i32 0, .int .i32 0] 23)).alloc (.cells #[.int .i32 0, .int .i32 0, .int .i32 0] 23) := ⟨_, rfl⟩
  rw [← hw1] at HV ⊢
  clear hw1
  go_wp2_with fail
  refine wp_loop_rounds 4 ?_
  have b0 : w1.heap[w.heap.size]? = _ := HV.out.at_ 0 _ _ rfl
  have b1 : w1.heap[w.heap.size + 1]? = _ := HV.out.at_ 1 _ _ rfl
  have b3 : w1.heap[w.heap.size + 1 + 1 + 1]? = _ := HV.out.at_ 3 _ _ rfl
  have c0 := cell_of_row _ _ 0 _ _ _ b0
  have c1 := cell_of_row _ _ 0 _ _ _ b1
  have ba := HA.out 0 (by decide)
  have bl := HL.out 0 (by decide)
  have s0 := Fx.sat_lo (a 0 - l 0)
  have s1 := Fx.sat_hi (a 0 - l 0)
  clear b0 b1
  rw [rounds_succ]
  go_upto_region 5 with fail
  go_quiet ((go_at_call 101; exact quiet_eq (rSat_any _ _ (by omega) (by omega))))
  obtain ⟨D, hD⟩ : ∃ D, D = Fx.sat (a 0 - l 0) := ⟨_, rfl⟩
  have D0 : -2147483648 ≤ D := by rw [hD]; exact Fx.sat_lo _
  have D1 : D ≤ 2147483647 := by rw [hD]; exact Fx.sat_hi _
  rw [← hD]
  have HD := Lib.hid hD
  clear hD c0 c1 ba bl b3 s0 s1
  have hV := HV.out.step (bel_drewV w1 nq)
  obtain ⟨w2, hw2⟩ : ∃ w2, w2 = w1.drewN nq := ⟨_, rfl⟩
  rw [← hw2] at hV ⊢
  clear hw2 HV
  have b3 : w2.heap[w.heap.size + 1 + 1 + 1]? = _ := hV.at_ 3 _ _ rfl
  have c3 := cell_of_row _ _ 0 _ _ _ b3
  have f3 := frozen_of_row _ _ 0 _ _ b3
  have HV2 := Lib.hid hV
  obtain ⟨T, hT⟩ : ∃ T, T = Fx.sat (D * g / Fx.pw q) := ⟨_, rfl⟩
  have E0 : -2147483648 ≤ T := by rw [hT]; exact Fx.sat_lo _
  have E1 : T ≤ 2147483647 := by rw [hT]; exact Fx.sat_hi _
  obtain ⟨N, hN⟩ : ∃ N, N = Fx.sat (-T) := ⟨_, rfl⟩
  have G0 : -2147483648 ≤ N := by rw [hN]; exact Fx.sat_lo _
  have G1 : N ≤ 2147483647 := by rw [hN]; exact Fx.sat_hi _
  have HT := Lib.hid hT
  have HN := Lib.hid hN
  clear b3 hV hT hN
  go_wp2_with fail
  go_at_call 103
  refine (times_any _ _ _ _ D0 D1 hg0 hg1).mono ?_
  rintro e w' ⟨rfl, rfl⟩
  rw [← HT.out]
  go_wp2_with fail
  go_at_call 101
  refine (rSat_any _ _ (by omega) (by omega)).mono ?_
  rintro e w' ⟨rfl, rfl⟩
  rw [← HN.out]
  go_wp2_with fail
  go_at_call 102
  refine (rclamp_any _ _ _ G0 G1 hm0 hm1).mono ?_
  rintro e w' ⟨rfl, rfl⟩
  go_upto_region 7 with fail
  clear c3 f3 E0 E1 G0 G1 D0 D1
  have hv := HV2.out.set 3 rfl 0 (.int .i32 (Fx.clamp N (-(max m 0)) (max m 0)))
  obtain ⟨w1, hw1⟩ : ∃ w1, w1 = w2.setCell ⟨w.heap.size + 1 + 1 + 1, 0, none⟩ (.int .i32 (Fx.clamp N (-(max m 0)) (max m 0))) := ⟨_, rfl⟩
  rw [← hw1] at hv ⊢
  rw [HN.out, HT.out, HD.out] at hv
  have HV := Lib.hid (show Bxs w w1 [(#[.int .i32 (a 0), .int .i32 (a 1), .int .i32 (a 2)], 23), (#[.int .i32 (l 0), .int .i32 (l 1), .int .i32 (l 2)], 23), (#[.int .i32 0, .int .i32 0, .int .i32 0], 23), (#[.int .i32 (bdF a l g q m 0), .int .i32 0, .int .i32 0], 23)] from hv)
  clear hw1 HV2 HN HT HD hv
  go_wp2_with fail
  have b0 : w1.heap[w.heap.size]? = _ := HV.out.at_ 0 _ _ rfl
  have b1 : w1.heap[w.heap.size + 1]? = _ := HV.out.at_ 1 _ _ rfl
  have b3 : w1.heap[w.heap.size + 1 + 1 + 1]? = _ := HV.out.at_ 3 _ _ rfl
  have c0 := cell_of_row _ _ 1 _ _ _ b0
  have c1 := cell_of_row _ _ 1 _ _ _ b1
  have ba := HA.out 1 (by decide)
  have bl := HL.out 1 (by decide)
  have s0 := Fx.sat_lo (a 1 - l 1)
  have s1 := Fx.sat_hi (a 1 - l 1)
  clear b0 b1
  rw [rounds_succ]
  go_upto_region 5 with fail
  go_quiet ((go_at_call 101; exact quiet_eq (rSat_any _ _ (by omega) (by omega))))
  obtain ⟨D, hD⟩ : ∃ D, D = Fx.sat (a 1 - l 1) := ⟨_, rfl⟩
  have D0 : -2147483648 ≤ D := by rw [hD]; exact Fx.sat_lo _
  have D1 : D ≤ 2147483647 := by rw [hD]; exact Fx.sat_hi _
  rw [← hD]
  have HD := Lib.hid hD
  clear hD c0 c1 ba bl b3 s0 s1
  have hV := HV.out.step (bel_drewV w1 nq)
  obtain ⟨w2, hw2⟩ : ∃ w2, w2 = w1.drewN nq := ⟨_, rfl⟩
  rw [← hw2] at hV ⊢
  clear hw2 HV
  have b3 : w2.heap[w.heap.size + 1 + 1 + 1]? = _ := hV.at_ 3 _ _ rfl
  have c3 := cell_of_row _ _ 1 _ _ _ b3
  have f3 := frozen_of_row _ _ 1 _ _ b3
  have HV2 := Lib.hid hV
  obtain ⟨T, hT⟩ : ∃ T, T = Fx.sat (D * g / Fx.pw q) := ⟨_, rfl⟩
  have E0 : -2147483648 ≤ T := by rw [hT]; exact Fx.sat_lo _
  have E1 : T ≤ 2147483647 := by rw [hT]; exact Fx.sat_hi _
  obtain ⟨N, hN⟩ : ∃ N, N = Fx.sat (-T) := ⟨_, rfl⟩
  have G0 : -2147483648 ≤ N := by rw [hN]; exact Fx.sat_lo _
  have G1 : N ≤ 2147483647 := by rw [hN]; exact Fx.sat_hi _
  have HT := Lib.hid hT
  have HN := Lib.hid hN
  clear b3 hV hT hN
  go_wp2_with fail
  go_at_call 103
  refine (times_any _ _ _ _ D0 D1 hg0 hg1).mono ?_
  rintro e w' ⟨rfl, rfl⟩
  rw [← HT.out]
  go_wp2_with fail
  go_at_call 101
  refine (rSat_any _ _ (by omega) (by omega)).mono ?_
  rintro e w' ⟨rfl, rfl⟩
  rw [← HN.out]
  go_wp2_with fail
  go_at_call 102
  refine (rclamp_any _ _ _ G0 G1 hm0 hm1).mono ?_
  rintro e w' ⟨rfl, rfl⟩
  go_upto_region 7 with fail
  clear c3 f3 E0 E1 G0 G1 D0 D1
  have hv := HV2.out.set 3 rfl 1 (.int .i32 (Fx.clamp N (-(max m 0)) (max m 0)))
  obtain ⟨w1, hw1⟩ : ∃ w1, w1 = w2.setCell ⟨w.heap.size + 1 + 1 + 1, 1, none⟩ (.int .i32 (Fx.clamp N (-(max m 0)) (max m 0))) := ⟨_, rfl⟩
  rw [← hw1] at hv ⊢
  rw [HN.out, HT.out, HD.out] at hv
  have HV := Lib.hid (show Bxs w w1 [(#[.int .i32 (a 0), .int .i32 (a 1), .int .i32 (a 2)], 23), (#[.int .i32 (l 0), .int .i32 (l 1), .int .i32 (l 2)], 23), (#[.int .i32 0, .int .i32 0, .int .i32 0], 23), (#[.int .i32 (bdF a l g q m 0), .int .i32 (bdF a l g q m 1), .int .i32 0], 23)] from hv)
  clear hw1 HV2 HN HT HD hv
  go_wp2_with fail
  have b0 : w1.heap[w.heap.size]? = _ := HV.out.at_ 0 _ _ rfl
  have b1 : w1.heap[w.heap.size + 1]? = _ := HV.out.at_ 1 _ _ rfl
  have b3 : w1.heap[w.heap.size + 1 + 1 + 1]? = _ := HV.out.at_ 3 _ _ rfl
  have c0 := cell_of_row _ _ 2 _ _ _ b0
  have c1 := cell_of_row _ _ 2 _ _ _ b1
  have ba := HA.out 2 (by decide)
  have bl := HL.out 2 (by decide)
  have s0 := Fx.sat_lo (a 2 - l 2)
  have s1 := Fx.sat_hi (a 2 - l 2)
  clear b0 b1
  rw [rounds_succ]
  go_upto_region 5 with fail
  go_quiet ((go_at_call 101; exact quiet_eq (rSat_any _ _ (by omega) (by omega))))
  obtain ⟨D, hD⟩ : ∃ D, D = Fx.sat (a 2 - l 2) := ⟨_, rfl⟩
  have D0 : -2147483648 ≤ D := by rw [hD]; exact Fx.sat_lo _
  have D1 : D ≤ 2147483647 := by rw [hD]; exact Fx.sat_hi _
  rw [← hD]
  have HD := Lib.hid hD
  clear hD c0 c1 ba bl b3 s0 s1
  have hV := HV.out.step (bel_drewV w1 nq)
  obtain ⟨w2, hw2⟩ : ∃ w2, w2 = w1.drewN nq := ⟨_, rfl⟩
  rw [← hw2] at hV ⊢
  clear hw2 HV
  have b3 : w2.heap[w.heap.size + 1 + 1 + 1]? = _ := hV.at_ 3 _ _ rfl
  have c3 := cell_of_row _ _ 2 _ _ _ b3
  have f3 := frozen_of_row _ _ 2 _ _ b3
  have HV2 := Lib.hid hV
  obtain ⟨T, hT⟩ : ∃ T, T = Fx.sat (D * g / Fx.pw q) := ⟨_, rfl⟩
  have E0 : -2147483648 ≤ T := by rw [hT]; exact Fx.sat_lo _
  have E1 : T ≤ 2147483647 := by rw [hT]; exact Fx.sat_hi _
  obtain ⟨N, hN⟩ : ∃ N, N = Fx.sat (-T) := ⟨_, rfl⟩
  have G0 : -2147483648 ≤ N := by rw [hN]; exact Fx.sat_lo _
  have G1 : N ≤ 2147483647 := by rw [hN]; exact Fx.sat_hi _
  have HT := Lib.hid hT
  have HN := Lib.hid hN
  clear b3 hV hT hN
  go_wp2_with fail
  go_at_call 103
  refine (times_any _ _ _ _ D0 D1 hg0 hg1).mono ?_
  rintro e w' ⟨rfl, rfl⟩
  rw [← HT.out]
  go_wp2_with fail
  go_at_call 101
  refine (rSat_any _ _ (by omega) (by omega)).mono ?_
  rintro e w' ⟨rfl, rfl⟩
  rw [← HN.out]
  go_wp2_with fail
  go_at_call 102
  refine (rclamp_any _ _ _ G0 G1 hm0 hm1).mono ?_
  rintro e w' ⟨rfl, rfl⟩
  go_upto_region 7 with fail
  clear c3 f3 E0 E1 G0 G1 D0 D1
  have hv := HV2.out.set 3 rfl 2 (.int .i32 (Fx.clamp N (-(max m 0)) (max m 0)))
  obtain ⟨w1, hw1⟩ : ∃ w1, w1 = w2.setCell ⟨w.heap.size + 1 + 1 + 1, 2, none⟩ (.int .i32 (Fx.clamp N (-(max m 0)) (max m 0))) := ⟨_, rfl⟩
  rw [← hw1] at hv ⊢
  rw [HN.out, HT.out, HD.out] at hv
  have HV := Lib.hid (show Bxs w w1 [(#[.int .i32 (a 0), .int .i32 (a 1), .int .i32 (a 2)], 23), (#[.int .i32 (l 0), .int .i32 (l 1), .int .i32 (l 2)], 23), (#[.int .i32 0, .int .i32 0, .int .i32 0], 23), (#[.int .i32 (bdF a l g q m 0), .int .i32 (bdF a l g q m 1), .int .i32 (bdF a l g q m 2)], 23)] from hv)
  clear hw1 HV2 HN HT HD hv
  go_wp2_with fail
  rw [rounds_succ]
  have b2 : w1.heap[w.heap.size + 1 + 1]? = _ := HV.out.at_ 2 _ _ rfl
  have b3 : w1.heap[w.heap.size + 1 + 1 + 1]? = _ := HV.out.at_ 3 _ _ rfl
  have hV := HV.out.put 2 rfl #[.int .i32 (bdF a l g q m 0), .int .i32 (bdF a l g q m 1), .int .i32 (bdF a l g q m 2)]
  have b4 : (w1.setRow (w.heap.size + 1 + 1) #[.int .i32 (bdF a l g q m 0), .int .i32 (bdF a l g q m 1), .int .i32 (bdF a l g q m 2)]).heap[w.heap.size + 1 + 1]? = _ := hV.at_ 2 _ _ rfl
  have HB4 := Lib.hid b4
  have HV2 := Lib.hid hV
  clear hV HV b4
  go_wp2_with (first | ((with_reducible show wpList _ _ _ (_ :: _) _ _); refine wpList_load_row rfl 23 _ rfl _ rfl _ _ _ _ b3 Try.underlying23 rfl (by exact size_vc) ?_; (try go_simp)) | ((with_reducible show wpList _ _ _ (_ :: _) _ _); refine wpList_store_row rfl 23 _ _ rfl _ _ rfl rfl _ _ b2 (by exact size_vc) (by rfl) (by simp [Value.oneCell']) ?_))
  refine bodyPost_ret (results_cell_row rfl _ _ _ _ _ _ _ rfl HB4.out Try.underlying23 rfl (by exact size_vc)) rfl ?_
  exact ⟨rfl, HV2.out.be⟩
end Go.Proofs.Ytinaimacocgemaa
