/- VecProducts -/
import Derived.Test.YtleodnnkdkgeeaaLaw02p
namespace Go.Proofs.Ytleodnnkdkgeeaa
open Go.RowKit
set_option linter.unusedVariables false

theorem rem_ex (a : Int) : ∃ p, Int.tmod a 30000 = p ∧ -29999 ≤ p ∧ p ≤ 29999 := by
  refine ⟨_, rfl, ?_⟩
  rcases Int.le_total 0 a with h | h
  · rw [Int.tmod_eq_emod_of_nonneg h]; omega
  · have e := Int.neg_tmod (a := -a) (b := 30000)
    rw [Int.neg_neg] at e
    rw [e, Int.tmod_eq_emod_of_nonneg (by omega)]; omega
theorem upright (p0 p1 p2 r0 r1 r2 : Int) : (p1 * r2 - p2 * r1) * p0 + (p2 * r0 - p0 * r2) * p1 + (p0 * r1 - p1 * r0) * p2 = 0 := by
  grind
theorem upright' (p0 p1 p2 r0 r1 r2 : Int) : (p1 * r2 - p2 * r1) * r0 + (p2 * r0 - p0 * r2) * r1 + (p0 * r1 - p1 * r0) * r2 = 0 := by
  grind
theorem crs_ex (a b c d : Int) (ha : -29999 ≤ a ∧ a ≤ 29999) (hb : -29999 ≤ b ∧ b ≤ 29999) (hc : -29999 ≤ c ∧ c ≤ 29999) (hd : -29999 ≤ d ∧ d ≤ 29999) :
    ∃ z, crs (a * b - c * d) 0 = z ∧ z = a * b - c * d ∧ -1800000000 ≤ z ∧ z ≤ 1800000000 ∧ crs (d * c - b * a) 0 = Fx.sat (-z) := by
  have m1 := Fx.mul_bd a b 29999 29999 (by omega) (by omega) (by omega) (by omega)
  have m2 := Fx.mul_bd c d 29999 29999 (by omega) (by omega) (by omega) (by omega)
  have e : Fx.pw 0 = 1 := by decide
  unfold crs
  rw [e, Int.ediv_one, Int.ediv_one, Int.mul_comm d c, Int.mul_comm b a]
  refine ⟨a * b - c * d, ?_, rfl, by omega, by omega, ?_⟩
  · unfold Fx.sat; split <;> (try split) <;> omega
  · rw [show c * d - a * b = -(a * b - c * d) by omega]
theorem sums_up (x y z p q r : Int) (h : x * p + y * q + z * r = 0) (hx : -1800000000 ≤ x ∧ x ≤ 1800000000) (hy : -1800000000 ≤ y ∧ y ≤ 1800000000) (hz : -1800000000 ≤ z ∧ z ≤ 1800000000) (hp : -29999 ≤ p ∧ p ≤ 29999) (hq : -29999 ≤ q ∧ q ≤ 29999) (hr : -29999 ≤ r ∧ r ≤ 29999) : Fx.sums [x * p, y * q, z * r] = 0 := by
  have m1 := Fx.mul_bd x p 1800000000 29999 (by omega) (by omega) (by omega) (by omega)
  have m2 := Fx.mul_bd y q 1800000000 29999 (by omega) (by omega) (by omega) (by omega)
  have m3 := Fx.mul_bd z r 1800000000 29999 (by omega) (by omega) (by omega) (by omega)
  have st : ∀ a : Int, -9000000000000000000 ≤ a ∧ a ≤ 9000000000000000000 → Fx.sat64 a = a := fun a ha => by unfold Fx.sat64; split <;> (try split) <;> omega
  simp only [Fx.sums, List.foldl]
  have e1 : Fx.sat64 (0 + x * p) = x * p := by rw [st _ (by omega)]; omega
  have e2 : Fx.sat64 (x * p + y * q) = x * p + y * q := st _ (by omega)
  have e3 : Fx.sat64 (x * p + y * q + z * r) = 0 := by rw [h]; exact st 0 (by omega)
  rw [e1, e2, e3]
/-- What stands while the two boxes are filled. -/
structure Fill (w v : World) (n : Nat) (ax ay az bx by_ bz x0 x1 x2 y0 y1 y2 : Int) : Prop where
  A : Three v .i32 w.heap.size ax ay az
  B : Three v .i32 (w.heap.size + 1) bx by_ bz
  X : Three v .i32 n x0 x1 x2
  Y : Three v .i32 (n + 1) y0 y1 y2
  fx : ∀ j, v.frozen? ⟨n, j, none⟩ = false
  fy : ∀ j, v.frozen? ⟨n + 1, j, none⟩ = false
  below : Below w.heap.size w v
  size : w.heap.size + 2 ≤ v.heap.size
  far : w.heap.size + 2 ≤ n
theorem Fill.drew {w v : World} {n : Nat} {ax ay az bx by_ bz x0 x1 x2 y0 y1 y2 : Int} (h : Fill w v n ax ay az bx by_ bz x0 x1 x2 y0 y1 y2) : Fill w v.drew n ax ay az bx by_ bz x0 x1 x2 y0 y1 y2 :=
  ⟨h.A.drew, h.B.drew, h.X.drew, h.Y.drew, h.fx, h.fy, h.below.drew, h.size, h.far⟩
theorem Fill.cls {w v : World} {n : Nat} {ax ay az bx by_ bz x0 x1 x2 y0 y1 y2 : Int} (h : Fill w v n ax ay az bx by_ bz x0 x1 x2 y0 y1 y2) : Three v .i32 w.heap.size ax ay az ∧ Three v .i32 (w.heap.size + 1) bx by_ bz ∧ Below w.heap.size w v ∧ w.heap.size + 2 ≤ v.heap.size :=
  ⟨h.A, h.B, h.below, h.size⟩

set_option maxHeartbeats 1000000 in
theorem Fill.x0 {w v : World} {n : Nat} {ax ay az bx by_ bz x0 x1 x2 y0 y1 y2 : Int} (h : Fill w v n ax ay az bx by_ bz x0 x1 x2 y0 y1 y2) (t : Int) : Fill w (v.setCell ⟨n, 0, none⟩ (.int .i32 t)) n ax ay az bx by_ bz t x1 x2 y0 y1 y2 := by
  obtain ⟨⟨a0, a1, a2⟩, ⟨b0, b1, b2⟩, ⟨c0, c1, c2⟩, ⟨d0, d1, d2⟩, fx, fy, hb, hs, hf⟩ := h
  exact ⟨⟨by go_simp, by go_simp, by go_simp⟩, ⟨by go_simp, by go_simp, by go_simp⟩, ⟨by go_simp, by go_simp, by go_simp⟩, ⟨by go_simp, by go_simp, by go_simp⟩, by intro j; have fx := fx j; go_simp, by intro j; have fy := fy j; go_simp, by repeat' (first | (with_reducible exact Below.refl _ _) | (with_reducible assumption) | (with_reducible refine Below.setCell ?_ ?_ _) | (with_reducible refine Below.alloc ?_ ?_ _) | (with_reducible refine Below.drew ?_) | (with_reducible refine Below.drawsN ?_ _) | go_size), by simpa using hs, hf⟩
set_option maxHeartbeats 1000000 in
theorem Fill.x1 {w v : World} {n : Nat} {ax ay az bx by_ bz x0 x1 x2 y0 y1 y2 : Int} (h : Fill w v n ax ay az bx by_ bz x0 x1 x2 y0 y1 y2) (t : Int) : Fill w (v.setCell ⟨n, 1, none⟩ (.int .i32 t)) n ax ay az bx by_ bz x0 t x2 y0 y1 y2 := by
  obtain ⟨⟨a0, a1, a2⟩, ⟨b0, b1, b2⟩, ⟨c0, c1, c2⟩, ⟨d0, d1, d2⟩, fx, fy, hb, hs, hf⟩ := h
  exact ⟨⟨by go_simp, by go_simp, by go_simp⟩, ⟨by go_simp, by go_simp, by go_simp⟩, ⟨by go_simp, by go_simp, by go_simp⟩, ⟨by go_simp, by go_simp, by go_simp⟩, by intro j; have fx := fx j; go_simp, by intro j; have fy := fy j; go_simp, by repeat' (first | (with_reducible exact Below.refl _ _) | (with_reducible assumption) | (with_reducible refine Below.setCell ?_ ?_ _) | (with_reducible refine Below.alloc ?_ ?_ _) | (with_reducible refine Below.drew ?_) | (with_reducible refine Below.drawsN ?_ _) | go_size), by simpa using hs, hf⟩
set_option maxHeartbeats 1000000 in
theorem Fill.x2 {w v : World} {n : Nat} {ax ay az bx by_ bz x0 x1 x2 y0 y1 y2 : Int} (h : Fill w v n ax ay az bx by_ bz x0 x1 x2 y0 y1 y2) (t : Int) : Fill w (v.setCell ⟨n, 2, none⟩ (.int .i32 t)) n ax ay az bx by_ bz x0 x1 t y0 y1 y2 := by
  obtain ⟨⟨a0, a1, a2⟩, ⟨b0, b1, b2⟩, ⟨c0, c1, c2⟩, ⟨d0, d1, d2⟩, fx, fy, hb, hs, hf⟩ := h
  exact ⟨⟨by go_simp, by go_simp, by go_simp⟩, ⟨by go_simp, by go_simp, by go_simp⟩, ⟨by go_simp, by go_simp, by go_simp⟩, ⟨by go_simp, by go_simp, by go_simp⟩, by intro j; have fx := fx j; go_simp, by intro j; have fy := fy j; go_simp, by repeat' (first | (with_reducible exact Below.refl _ _) | (with_reducible assumption) | (with_reducible refine Below.setCell ?_ ?_ _) | (with_reducible refine Below.alloc ?_ ?_ _) | (with_reducible refine Below.drew ?_) | (with_reducible refine Below.drawsN ?_ _) | go_size), by simpa using hs, hf⟩
set_option maxHeartbeats 1000000 in
theorem Fill.y0 {w v : World} {n : Nat} {ax ay az bx by_ bz x0 x1 x2 y0 y1 y2 : Int} (h : Fill w v n ax ay az bx by_ bz x0 x1 x2 y0 y1 y2) (t : Int) : Fill w (v.setCell ⟨n + 1, 0, none⟩ (.int .i32 t)) n ax ay az bx by_ bz x0 x1 x2 t y1 y2 := by
  obtain ⟨⟨a0, a1, a2⟩, ⟨b0, b1, b2⟩, ⟨c0, c1, c2⟩, ⟨d0, d1, d2⟩, fx, fy, hb, hs, hf⟩ := h
  exact ⟨⟨by go_simp, by go_simp, by go_simp⟩, ⟨by go_simp, by go_simp, by go_simp⟩, ⟨by go_simp, by go_simp, by go_simp⟩, ⟨by go_simp, by go_simp, by go_simp⟩, by intro j; have fx := fx j; go_simp, by intro j; have fy := fy j; go_simp, by repeat' (first | (with_reducible exact Below.refl _ _) | (with_reducible assumption) | (with_reducible refine Below.setCell ?_ ?_ _) | (with_reducible refine Below.alloc ?_ ?_ _) | (with_reducible refine Below.drew ?_) | (with_reducible refine Below.drawsN ?_ _) | go_size), by simpa using hs, hf⟩
set_option maxHeartbeats 1000000 in
theorem Fill.y1 {w v : World} {n : Nat} {ax ay az bx by_ bz x0 x1 x2 y0 y1 y2 : Int} (h : Fill w v n ax ay az bx by_ bz x0 x1 x2 y0 y1 y2) (t : Int) : Fill w (v.setCell ⟨n + 1, 1, none⟩ (.int .i32 t)) n ax ay az bx by_ bz x0 x1 x2 y0 t y2 := by
  obtain ⟨⟨a0, a1, a2⟩, ⟨b0, b1, b2⟩, ⟨c0, c1, c2⟩, ⟨d0, d1, d2⟩, fx, fy, hb, hs, hf⟩ := h
  exact ⟨⟨by go_simp, by go_simp, by go_simp⟩, ⟨by go_simp, by go_simp, by go_simp⟩, ⟨by go_simp, by go_simp, by go_simp⟩, ⟨by go_simp, by go_simp, by go_simp⟩, by intro j; have fx := fx j; go_simp, by intro j; have fy := fy j; go_simp, by repeat' (first | (with_reducible exact Below.refl _ _) | (with_reducible assumption) | (with_reducible refine Below.setCell ?_ ?_ _) | (with_reducible refine Below.alloc ?_ ?_ _) | (with_reducible refine Below.drew ?_) | (with_reducible refine Below.drawsN ?_ _) | go_size), by simpa using hs, hf⟩
set_option maxHeartbeats 1000000 in
theorem Fill.y2 {w v : World} {n : Nat} {ax ay az bx by_ bz x0 x1 x2 y0 y1 y2 : Int} (h : Fill w v n ax ay az bx by_ bz x0 x1 x2 y0 y1 y2) (t : Int) : Fill w (v.setCell ⟨n + 1, 2, none⟩ (.int .i32 t)) n ax ay az bx by_ bz x0 x1 x2 y0 y1 t := by
  obtain ⟨⟨a0, a1, a2⟩, ⟨b0, b1, b2⟩, ⟨c0, c1, c2⟩, ⟨d0, d1, d2⟩, fx, fy, hb, hs, hf⟩ := h
  exact ⟨⟨by go_simp, by go_simp, by go_simp⟩, ⟨by go_simp, by go_simp, by go_simp⟩, ⟨by go_simp, by go_simp, by go_simp⟩, ⟨by go_simp, by go_simp, by go_simp⟩, by intro j; have fx := fx j; go_simp, by intro j; have fy := fy j; go_simp, by repeat' (first | (with_reducible exact Below.refl _ _) | (with_reducible assumption) | (with_reducible refine Below.setCell ?_ ?_ _) | (with_reducible refine Below.alloc ?_ ?_ _) | (with_reducible refine Below.drew ?_) | (with_reducible refine Below.drawsN ?_ _) | go_size), by simpa using hs, hf⟩
set_option maxRecDepth 100000 in
set_option maxHeartbeats 4000000 in
theorem walk_VecProducts_0 (ax ay az bx by_ bz q : Int) (w : World) (axlo : -2147483648 ≤ ax) (axhi : ax ≤ 2147483647) (aylo : -2147483648 ≤ ay) (ayhi : ay ≤ 2147483647) (azlo : -2147483648 ≤ az) (azhi : az ≤ 2147483647) (bxlo : -2147483648 ≤ bx) (bxhi : bx ≤ 2147483647) (by_lo : -2147483648 ≤ by_) (by_hi : by_ ≤ 2147483647) (bzlo : -2147483648 ≤ bz) (bzhi : bz ≤ 2147483647) :
    Calls Try.prog 12 #[.agg #[.int .i32 ax, .int .i32 ay, .int .i32 az], .agg #[.int .i32 bx, .int .i32 by_, .int .i32 bz], .int .i64 q] w fun e w' => e = .returned (.bool true) ∧ Below w.heap.size w w' := by
  go_enter Try.func12, Try.ntmps12
  go_wp2_with (go_at_call 30; refine (awake02 _).mono ?_; rintro e w1 ⟨rfl, hb1⟩)
  have hA : Three w1 .i32 w.heap.size ax ay az := Three.below (⟨by go_simp, by go_simp, by go_simp⟩ : Three ((w.alloc (Obj.cells #[.int .i32 ax, .int .i32 ay, .int .i32 az] 45)).alloc (Obj.cells #[.int .i32 bx, .int .i32 by_, .int .i32 bz] 45)) .i32 w.heap.size ax ay az) hb1 (by simp; omega)
  have hA2 : Three w1 .i32 (w.heap.size + 1) bx by_ bz := Three.below (⟨by go_simp, by go_simp, by go_simp⟩ : Three ((w.alloc (Obj.cells #[.int .i32 ax, .int .i32 ay, .int .i32 az] 45)).alloc (Obj.cells #[.int .i32 bx, .int .i32 by_, .int .i32 bz] 45)) .i32 (w.heap.size + 1) bx by_ bz) hb1 (by simp)
  have hB : Below w.heap.size w w1 := (by repeat' (first | (with_reducible exact Below.refl _ _) | (with_reducible assumption) | (with_reducible refine Below.setCell ?_ ?_ _) | (with_reducible refine Below.alloc ?_ ?_ _) | (with_reducible refine Below.drew ?_) | (with_reducible refine Below.drawsN ?_ _) | go_size) : Below w.heap.size w ((w.alloc (Obj.cells #[.int .i32 ax, .int .i32 ay, .int .i32 az] 45)).alloc (Obj.cells #[.int .i32 bx, .int .i32 by_, .int .i32 bz] 45))).trans (hb1.mono (by simp; omega))
  have hsz : w.heap.size + 2 ≤ w1.heap.size := Nat.le_trans (by simp) hb1.size
  clear hb1
  obtain ⟨D, hD⟩ : ∃ D, D = Fx.sums [ax * bx, ay * by_, az * bz] := ⟨_, rfl⟩
  have hD' : Fx.sums [bx * ax, by_ * ay, bz * az] = D := by rw [hD, Int.mul_comm bx, Int.mul_comm by_, Int.mul_comm bz]
  have HD := Lib.hid hD
  have HD' := Lib.hid hD'
  clear hD hD'
  obtain ⟨I, W, hne, hWI, hIW⟩ := Go.Mix.family (fun v => Three v .i32 w.heap.size ax ay az ∧ Three v .i32 (w.heap.size + 1) bx by_ bz ∧ Below w.heap.size w v ∧ w.heap.size + 2 ≤ v.heap.size) ⟨hA, hA2, hB, hsz⟩
  have i0 : ∀ i, (W i).cell? ⟨w.heap.size, 0, none⟩ = some (.int .i32 ax) := fun i => (hWI i).1.c0
  have i1 : ∀ i, (W i).cell? ⟨w.heap.size, 1, none⟩ = some (.int .i32 ay) := fun i => (hWI i).1.c1
  have i2 : ∀ i, (W i).cell? ⟨w.heap.size, 2, none⟩ = some (.int .i32 az) := fun i => (hWI i).1.c2
  have j0 : ∀ i, (W i).cell? ⟨w.heap.size + 1, 0, none⟩ = some (.int .i32 bx) := fun i => (hWI i).2.1.c0
  have j1 : ∀ i, (W i).cell? ⟨w.heap.size + 1, 1, none⟩ = some (.int .i32 by_) := fun i => (hWI i).2.1.c1
  have j2 : ∀ i, (W i).cell? ⟨w.heap.size + 1, 2, none⟩ = some (.int .i32 bz) := fun i => (hWI i).2.1.c2
  have HJ := Lib.hid hIW
  clear hWI hIW
  refine Go.Mix.wp_region (fun w' => ∃ i, w' = W i) (by kernel_rfl) (by kernel_rfl) (HJ.out _ ⟨hA.drew, hA2.drew, hB.drew, hsz⟩) ?_
  simp only []
  (repeat (first | (refine Go.Mix.walk_calm rfl ?_ (fun K hK => ?_); (first | exact Go.Mix.wanted_none rfl | exact Go.Mix.wanted_tt rfl rfl rfl | exact Go.Mix.wanted_ff rfl rfl rfl); go_big_quiet_op; refine hK _ ?_; clear hK K) | (refine Go.Mix.walk_skip ?_ (fun K hK => ?_); (first | exact Go.Mix.wanted_tf rfl rfl rfl | exact Go.Mix.wanted_ft rfl rfl rfl); go_simp; refine hK _ ?_; clear hK K) | (refine Go.Mix.walk_loud rfl ?_ (fun K hK => ?_); (first | exact Go.Mix.wanted_none rfl | exact Go.Mix.wanted_tt rfl rfl rfl | exact Go.Mix.wanted_ff rfl rfl rfl); (first | go_big_op | go_simp); (first | (refine hK _ _ trivial ?_; clear hK K) | (fail; (try dsimp only); refine hK _ _ trivial ?_; clear hK K))) | (refine Go.Mix.walk_step (fun K hK => ?_); go_simp; (try (go_ints; try go_simp)); refine hK _ _ ?_; clear hK K)))
  (refine Go.Mix.walk_loud rfl ?_ (fun K hK => ?_); (first | exact Go.Mix.wanted_none rfl | exact Go.Mix.wanted_tt rfl rfl rfl | exact Go.Mix.wanted_ff rfl rfl rfl); (first | go_big_op | go_simp); go_at_call 36; refine (vDot_any ax ay az bx by_ bz _ axlo axhi aylo ayhi azlo azhi bxlo bxhi by_lo by_hi bzlo bzhi).mono ?_)
  rintro e w2 ⟨rfl, hb⟩
  rw [← HD.out]
  have hA := hA.drew.below hb (by simp; omega)
  have hA2 := hA2.drew.below hb (by simp; omega)
  have hB := hB.drew.trans (hb.mono (by simp; omega))
  have hsz := Nat.le_trans hsz hb.size
  dsimp only
  (refine hK _ _ (HJ.out _ ⟨hA, hA2, hB, hsz⟩) ?_; clear hK K)
  (repeat (first | (refine Go.Mix.walk_calm rfl ?_ (fun K hK => ?_); (first | exact Go.Mix.wanted_none rfl | exact Go.Mix.wanted_tt rfl rfl rfl | exact Go.Mix.wanted_ff rfl rfl rfl); go_big_quiet_op; refine hK _ ?_; clear hK K) | (refine Go.Mix.walk_skip ?_ (fun K hK => ?_); (first | exact Go.Mix.wanted_tf rfl rfl rfl | exact Go.Mix.wanted_ft rfl rfl rfl); go_simp; refine hK _ ?_; clear hK K) | (refine Go.Mix.walk_loud rfl ?_ (fun K hK => ?_); (first | exact Go.Mix.wanted_none rfl | exact Go.Mix.wanted_tt rfl rfl rfl | exact Go.Mix.wanted_ff rfl rfl rfl); (first | go_big_op | go_simp); (first | (refine hK _ _ trivial ?_; clear hK K) | (fail; (try dsimp only); refine hK _ _ trivial ?_; clear hK K))) | (refine Go.Mix.walk_step (fun K hK => ?_); go_simp; (try (go_ints; try go_simp)); refine hK _ _ ?_; clear hK K)))
  (refine Go.Mix.walk_loud rfl ?_ (fun K hK => ?_); (first | exact Go.Mix.wanted_none rfl | exact Go.Mix.wanted_tt rfl rfl rfl | exact Go.Mix.wanted_ff rfl rfl rfl); (first | go_big_op | go_simp); go_at_call 37; refine (rDot_any ax ay az bx by_ bz _ axlo axhi aylo ayhi azlo azhi bxlo bxhi by_lo by_hi bzlo bzhi).mono ?_)
  rintro e w3 ⟨rfl, hb⟩
  rw [← HD.out]
  have hA := hA.below hb (by omega)
  have hA2 := hA2.below hb (by omega)
  have hB := hB.trans (hb.mono (by omega))
  have hsz := Nat.le_trans hsz hb.size
  dsimp only
  (refine hK _ _ (HJ.out _ ⟨hA, hA2, hB, hsz⟩) ?_; clear hK K)
  (repeat (first | (refine Go.Mix.walk_calm rfl ?_ (fun K hK => ?_); (first | exact Go.Mix.wanted_none rfl | exact Go.Mix.wanted_tt rfl rfl rfl | exact Go.Mix.wanted_ff rfl rfl rfl); go_big_quiet_op; refine hK _ ?_; clear hK K) | (refine Go.Mix.walk_skip ?_ (fun K hK => ?_); (first | exact Go.Mix.wanted_tf rfl rfl rfl | exact Go.Mix.wanted_ft rfl rfl rfl); go_simp; refine hK _ ?_; clear hK K) | (refine Go.Mix.walk_loud rfl ?_ (fun K hK => ?_); (first | exact Go.Mix.wanted_none rfl | exact Go.Mix.wanted_tt rfl rfl rfl | exact Go.Mix.wanted_ff rfl rfl rfl); (first | go_big_op | go_simp); (first | (refine hK _ _ trivial ?_; clear hK K) | (fail; (try dsimp only); refine hK _ _ trivial ?_; clear hK K))) | (refine Go.Mix.walk_step (fun K hK => ?_); go_simp; (try (go_ints; try go_simp)); refine hK _ _ ?_; clear hK K)))
  (refine Go.Mix.walk_loud rfl ?_ (fun K hK => ?_); (first | exact Go.Mix.wanted_none rfl | exact Go.Mix.wanted_tt rfl rfl rfl | exact Go.Mix.wanted_ff rfl rfl rfl); (first | go_big_op | go_simp); go_at_call 36; refine (vDot_any ax ay az bx by_ bz _ axlo axhi aylo ayhi azlo azhi bxlo bxhi by_lo by_hi bzlo bzhi).mono ?_)
  rintro e w4 ⟨rfl, hb⟩
  rw [← HD.out]
  have hA := hA.below hb (by omega)
  have hA2 := hA2.below hb (by omega)
  have hB := hB.trans (hb.mono (by omega))
  have hsz := Nat.le_trans hsz hb.size
  dsimp only
  (refine hK _ _ (HJ.out _ ⟨hA, hA2, hB, hsz⟩) ?_; clear hK K)
  (repeat (first | (refine Go.Mix.walk_calm rfl ?_ (fun K hK => ?_); (first | exact Go.Mix.wanted_none rfl | exact Go.Mix.wanted_tt rfl rfl rfl | exact Go.Mix.wanted_ff rfl rfl rfl); go_big_quiet_op; refine hK _ ?_; clear hK K) | (refine Go.Mix.walk_skip ?_ (fun K hK => ?_); (first | exact Go.Mix.wanted_tf rfl rfl rfl | exact Go.Mix.wanted_ft rfl rfl rfl); go_simp; refine hK _ ?_; clear hK K) | (refine Go.Mix.walk_loud rfl ?_ (fun K hK => ?_); (first | exact Go.Mix.wanted_none rfl | exact Go.Mix.wanted_tt rfl rfl rfl | exact Go.Mix.wanted_ff rfl rfl rfl); (first | go_big_op | go_simp); (first | (refine hK _ _ trivial ?_; clear hK K) | (fail; (try dsimp only); refine hK _ _ trivial ?_; clear hK K))) | (refine Go.Mix.walk_step (fun K hK => ?_); go_simp; (try (go_ints; try go_simp)); refine hK _ _ ?_; clear hK K)))
  (refine Go.Mix.walk_loud rfl ?_ (fun K hK => ?_); (first | exact Go.Mix.wanted_none rfl | exact Go.Mix.wanted_tt rfl rfl rfl | exact Go.Mix.wanted_ff rfl rfl rfl); (first | go_big_op | go_simp); go_at_call 36; refine (vDot_any bx by_ bz ax ay az _ bxlo bxhi by_lo by_hi bzlo bzhi axlo axhi aylo ayhi azlo azhi).mono ?_)
  rintro e w5 ⟨rfl, hb⟩
  rw [HD'.out]
  have hA := hA.below hb (by omega)
  have hA2 := hA2.below hb (by omega)
  have hB := hB.trans (hb.mono (by omega))
  have hsz := Nat.le_trans hsz hb.size
  dsimp only
  (refine hK _ _ (HJ.out _ ⟨hA, hA2, hB, hsz⟩) ?_; clear hK K)
  (repeat (first | (refine Go.Mix.walk_calm rfl ?_ (fun K hK => ?_); (first | exact Go.Mix.wanted_none rfl | exact Go.Mix.wanted_tt rfl rfl rfl | exact Go.Mix.wanted_ff rfl rfl rfl); go_big_quiet_op; refine hK _ ?_; clear hK K) | (refine Go.Mix.walk_skip ?_ (fun K hK => ?_); (first | exact Go.Mix.wanted_tf rfl rfl rfl | exact Go.Mix.wanted_ft rfl rfl rfl); go_simp; refine hK _ ?_; clear hK K) | (refine Go.Mix.walk_loud rfl ?_ (fun K hK => ?_); (first | exact Go.Mix.wanted_none rfl | exact Go.Mix.wanted_tt rfl rfl rfl | exact Go.Mix.wanted_ff rfl rfl rfl); (first | go_big_op | go_simp); (first | (refine hK _ _ trivial ?_; clear hK K) | (fail; (try dsimp only); refine hK _ _ trivial ?_; clear hK K))) | (refine Go.Mix.walk_step (fun K hK => ?_); go_simp; (try (go_ints; try go_simp)); refine hK _ _ ?_; clear hK K)))
  refine Go.Mix.walk_nil ?_
  have a0 := hA.c0
  have a1 := hA.c1
  have a2 := hA.c2
  have b0 := hA2.c0
  have b1 := hA2.c1
  have b2 := hA2.c2
  go_wp2_with fail
  by_cases hf : (ax == -2147483648) = true ∨ (ay == -2147483648) = true ∨ (az == -2147483648) = true ∨ (bx == -2147483648) = true ∨ (by_ == -2147483648) = true ∨ (bz == -2147483648) = true
  · go_at_call 38
    refine (far_yes _ ax ay az bx by_ bz _ ⟨by go_simp, by go_simp, by go_simp, by go_simp, by go_simp, by go_simp⟩ hf).mono ?_
    rintro e w6 ⟨rfl, hb⟩
    go_wp2
    go_ret
    exact ⟨rfl, hB.trans (((Below.refl _ _).alloc (Nat.le_refl _) _).trans (hb.mono (by simp)) |>.mono (by omega))⟩
  simp only [not_or, Bool.not_eq_true] at hf
  obtain ⟨e0, e1, e2, e3, e4, e5⟩ := hf
  go_at_call 38
  refine (far_no _ ax ay az bx by_ bz _ ⟨by go_simp, by go_simp, by go_simp, by go_simp, by go_simp, by go_simp⟩ e0 e1 e2 e3 e4 e5).mono ?_
  rintro e w6 ⟨rfl, hb⟩
  have hb := ((Below.refl _ _).alloc (Nat.le_refl _) _).trans (hb.mono (by simp))
  have hA := hA.below hb (by omega)
  have hA2 := hA2.below hb (by omega)
  have hB := hB.trans (hb.mono (by omega))
  have hsz := Nat.le_trans hsz hb.size
  obtain ⟨C, hC⟩ : ∃ C, C = (Value.agg #[.int .i32 (crs (ay * bz - az * by_) q), .int .i32 (crs (az * bx - ax * bz) q), .int .i32 (crs (ax * by_ - ay * bx) q)]) := ⟨_, rfl⟩
  clear e0 e1 e2 e3 e4 e5
  go_wp2
  refine Go.Mix.wp_region (fun w' => ∃ i, w' = W i) (by kernel_rfl) (by kernel_rfl) (HJ.out _ ⟨hA.drew, hA2.drew, hB.drew, hsz⟩) ?_
  simp only []
  (repeat (first | (refine Go.Mix.walk_calm rfl ?_ (fun K hK => ?_); (first | exact Go.Mix.wanted_none rfl | exact Go.Mix.wanted_tt rfl rfl rfl | exact Go.Mix.wanted_ff rfl rfl rfl); go_big_quiet_op; refine hK _ ?_; clear hK K) | (refine Go.Mix.walk_skip ?_ (fun K hK => ?_); (first | exact Go.Mix.wanted_tf rfl rfl rfl | exact Go.Mix.wanted_ft rfl rfl rfl); go_simp; refine hK _ ?_; clear hK K) | (refine Go.Mix.walk_loud rfl ?_ (fun K hK => ?_); (first | exact Go.Mix.wanted_none rfl | exact Go.Mix.wanted_tt rfl rfl rfl | exact Go.Mix.wanted_ff rfl rfl rfl); (first | go_big_op | go_simp); (first | (refine hK _ _ trivial ?_; clear hK K) | (fail; (try dsimp only); refine hK _ _ trivial ?_; clear hK K))) | (refine Go.Mix.walk_step (fun K hK => ?_); go_simp; (try (go_ints; try go_simp)); refine hK _ _ ?_; clear hK K)))
  (refine Go.Mix.walk_loud rfl ?_ (fun K hK => ?_); (first | exact Go.Mix.wanted_none rfl | exact Go.Mix.wanted_tt rfl rfl rfl | exact Go.Mix.wanted_ff rfl rfl rfl); (first | go_big_op | go_simp); go_at_call 39; refine (vCross_any ax ay az bx by_ bz q _ axlo axhi aylo ayhi azlo azhi bxlo bxhi by_lo by_hi bzlo bzhi).mono ?_)
  rintro e w7 ⟨rfl, hb⟩
  have hA := hA.drew.below hb (by simp; omega)
  have hA2 := hA2.drew.below hb (by simp; omega)
  have hB := hB.drew.trans (hb.mono (by simp; omega))
  have hsz := Nat.le_trans hsz hb.size
  dsimp only
  (refine hK _ _ (HJ.out _ ⟨hA, hA2, hB, hsz⟩) ?_; clear hK K)
  (repeat (first | (refine Go.Mix.walk_calm rfl ?_ (fun K hK => ?_); (first | exact Go.Mix.wanted_none rfl | exact Go.Mix.wanted_tt rfl rfl rfl | exact Go.Mix.wanted_ff rfl rfl rfl); go_big_quiet_op; refine hK _ ?_; clear hK K) | (refine Go.Mix.walk_skip ?_ (fun K hK => ?_); (first | exact Go.Mix.wanted_tf rfl rfl rfl | exact Go.Mix.wanted_ft rfl rfl rfl); go_simp; refine hK _ ?_; clear hK K) | (refine Go.Mix.walk_loud rfl ?_ (fun K hK => ?_); (first | exact Go.Mix.wanted_none rfl | exact Go.Mix.wanted_tt rfl rfl rfl | exact Go.Mix.wanted_ff rfl rfl rfl); (first | go_big_op | go_simp); (first | (refine hK _ _ trivial ?_; clear hK K) | (fail; (try dsimp only); refine hK _ _ trivial ?_; clear hK K))) | (refine Go.Mix.walk_step (fun K hK => ?_); go_simp; (try (go_ints; try go_simp)); refine hK _ _ ?_; clear hK K)))
  (refine Go.Mix.walk_loud rfl ?_ (fun K hK => ?_); (first | exact Go.Mix.wanted_none rfl | exact Go.Mix.wanted_tt rfl rfl rfl | exact Go.Mix.wanted_ff rfl rfl rfl); (first | go_big_op | go_simp); go_at_call 40; refine (rCross_any ax ay az bx by_ bz q _ axlo axhi aylo ayhi azlo azhi bxlo bxhi by_lo by_hi bzlo bzhi).mono ?_)
  rintro e w8 ⟨rfl, hb⟩
  skip
  have hA := hA.below hb (by omega)
  have hA2 := hA2.below hb (by omega)
  have hB := hB.trans (hb.mono (by omega))
  have hsz := Nat.le_trans hsz hb.size
  dsimp only
  (refine hK _ _ (HJ.out _ ⟨hA, hA2, hB, hsz⟩) ?_; clear hK K)
  (repeat (first | (refine Go.Mix.walk_calm rfl ?_ (fun K hK => ?_); (first | exact Go.Mix.wanted_none rfl | exact Go.Mix.wanted_tt rfl rfl rfl | exact Go.Mix.wanted_ff rfl rfl rfl); go_big_quiet_op; refine hK _ ?_; clear hK K) | (refine Go.Mix.walk_skip ?_ (fun K hK => ?_); (first | exact Go.Mix.wanted_tf rfl rfl rfl | exact Go.Mix.wanted_ft rfl rfl rfl); go_simp; refine hK _ ?_; clear hK K) | (refine Go.Mix.walk_loud rfl ?_ (fun K hK => ?_); (first | exact Go.Mix.wanted_none rfl | exact Go.Mix.wanted_tt rfl rfl rfl | exact Go.Mix.wanted_ff rfl rfl rfl); (first | go_big_op | go_simp); (first | (refine hK _ _ trivial ?_; clear hK K) | (fail; (try dsimp only); refine hK _ _ trivial ?_; clear hK K))) | (refine Go.Mix.walk_step (fun K hK => ?_); go_simp; (try (go_ints; try go_simp)); refine hK _ _ ?_; clear hK K)))
  refine Go.Mix.walk_nil ?_
  have a0 := hA.c0
  have a1 := hA.c1
  have a2 := hA.c2
  have b0 := hA2.c0
  have b1 := hA2.c1
  have b2 := hA2.c2
  go_wp2
  obtain ⟨w9, hw9⟩ : ∃ w9, w9 = ((w8.alloc (Obj.cells #[.int .i32 0, .int .i32 0, .int .i32 0] 45)).alloc (Obj.cells #[.int .i32 0, .int .i32 0, .int .i32 0] 45)) := ⟨_, rfl⟩
  obtain ⟨N, hN⟩ : ∃ N, N = w8.heap.size := ⟨_, rfl⟩
  have hF : Fill w w9 N ax ay az bx by_ bz 0 0 0 0 0 0 := by
    rw [hw9, hN]
    have hb := (((Below.refl w8.heap.size w8).alloc (Nat.le_refl _) (Obj.cells #[.int .i32 0, .int .i32 0, .int .i32 0] 45)).alloc (by simp) (Obj.cells #[.int .i32 0, .int .i32 0, .int .i32 0] 45))
    exact ⟨hA.below hb (by omega), hA2.below hb (by omega), ⟨by go_simp, by go_simp, by go_simp⟩, ⟨by go_simp, by go_simp, by go_simp⟩, by intro j; go_simp, by intro j; go_simp, hB.trans (hb.mono (by omega)), by simp; omega, by omega⟩
  rw [← hw9, ← hN]
  clear hw9 hN a0 a1 a2 b0 b1 b2 hA hA2 hB hsz hb hC
  refine wp_loop_rounds 4 ?_
  rw [rounds_succ]
  go_wp2_with fail
  refine Go.Mix.wp_region (fun w' => ∃ i, w' = W i) (by kernel_rfl) (by kernel_rfl) (HJ.out _ hF.drew.cls) ?_
  simp only []
  (repeat (first | (refine Go.Mix.walk_calm rfl ?_ (fun K hK => ?_); (first | exact Go.Mix.wanted_none rfl | exact Go.Mix.wanted_tt rfl rfl rfl | exact Go.Mix.wanted_ff rfl rfl rfl); go_big_quiet_op; refine hK _ ?_; clear hK K) | (refine Go.Mix.walk_skip ?_ (fun K hK => ?_); (first | exact Go.Mix.wanted_tf rfl rfl rfl | exact Go.Mix.wanted_ft rfl rfl rfl); go_simp; refine hK _ ?_; clear hK K) | (refine Go.Mix.walk_loud rfl ?_ (fun K hK => ?_); (first | exact Go.Mix.wanted_none rfl | exact Go.Mix.wanted_tt rfl rfl rfl | exact Go.Mix.wanted_ff rfl rfl rfl); (first | go_big_op | go_simp); (first | (refine hK _ _ trivial ?_; clear hK K) | (fail; (try dsimp only); refine hK _ _ trivial ?_; clear hK K))) | (refine Go.Mix.walk_step (fun K hK => ?_); go_simp; (try (go_ints; try go_simp)); refine hK _ _ ?_; clear hK K)))
  have xx := hF.X.c0
  have yy := hF.Y.c0
  have fx := hF.fx 0
  have fy := hF.fy 0
  refine Go.Mix.walk_loud rfl ?_ (fun K hK => ?_)
  (first | exact Go.Mix.wanted_none rfl | exact Go.Mix.wanted_tt rfl rfl rfl | exact Go.Mix.wanted_ff rfl rfl rfl)
  (first | go_big_op | go_simp)
  have hG := hF.x0 (Int.tmod ax 30000)
  refine hK _ _ (HJ.out _ hG.drew.cls) ?_
  clear hK K
  have yy := hG.Y.c0
  have fy := hG.fy 0
  (repeat (first | (refine Go.Mix.walk_calm rfl ?_ (fun K hK => ?_); (first | exact Go.Mix.wanted_none rfl | exact Go.Mix.wanted_tt rfl rfl rfl | exact Go.Mix.wanted_ff rfl rfl rfl); go_big_quiet_op; refine hK _ ?_; clear hK K) | (refine Go.Mix.walk_skip ?_ (fun K hK => ?_); (first | exact Go.Mix.wanted_tf rfl rfl rfl | exact Go.Mix.wanted_ft rfl rfl rfl); go_simp; refine hK _ ?_; clear hK K) | (refine Go.Mix.walk_loud rfl ?_ (fun K hK => ?_); (first | exact Go.Mix.wanted_none rfl | exact Go.Mix.wanted_tt rfl rfl rfl | exact Go.Mix.wanted_ff rfl rfl rfl); (first | go_big_op | go_simp); (first | (refine hK _ _ trivial ?_; clear hK K) | (fail; (try dsimp only); refine hK _ _ trivial ?_; clear hK K))) | (refine Go.Mix.walk_step (fun K hK => ?_); go_simp; (try (go_ints; try go_simp)); refine hK _ _ ?_; clear hK K)))
  refine Go.Mix.walk_loud rfl ?_ (fun K hK => ?_)
  (first | exact Go.Mix.wanted_none rfl | exact Go.Mix.wanted_tt rfl rfl rfl | exact Go.Mix.wanted_ff rfl rfl rfl)
  (first | go_big_op | go_simp)
  have hF := (hG.y0 (Int.tmod bx 30000)).drew
  refine hK _ _ (HJ.out _ hF.cls) ?_
  clear hK K hG xx yy fx fy
  refine Go.Mix.walk_nil ?_
  obtain ⟨w10, hw⟩ : ∃ w10, w10 = ((w9.setCell ⟨N, 0, none⟩ (.int .i32 (Int.tmod ax 30000))).setCell ⟨N + 1, 0, none⟩ (.int .i32 (Int.tmod bx 30000))).drew := ⟨_, rfl⟩
  rw [← hw] at hF
  rw [← hw]
  clear hw
  go_wp2_with fail
  rw [rounds_succ]
  go_wp2_with fail
  refine Go.Mix.wp_region (fun w' => ∃ i, w' = W i) (by kernel_rfl) (by kernel_rfl) (HJ.out _ hF.drew.cls) ?_
  simp only []
  (repeat (first | (refine Go.Mix.walk_calm rfl ?_ (fun K hK => ?_); (first | exact Go.Mix.wanted_none rfl | exact Go.Mix.wanted_tt rfl rfl rfl | exact Go.Mix.wanted_ff rfl rfl rfl); go_big_quiet_op; refine hK _ ?_; clear hK K) | (refine Go.Mix.walk_skip ?_ (fun K hK => ?_); (first | exact Go.Mix.wanted_tf rfl rfl rfl | exact Go.Mix.wanted_ft rfl rfl rfl); go_simp; refine hK _ ?_; clear hK K) | (refine Go.Mix.walk_loud rfl ?_ (fun K hK => ?_); (first | exact Go.Mix.wanted_none rfl | exact Go.Mix.wanted_tt rfl rfl rfl | exact Go.Mix.wanted_ff rfl rfl rfl); (first | go_big_op | go_simp); (first | (refine hK _ _ trivial ?_; clear hK K) | (fail; (try dsimp only); refine hK _ _ trivial ?_; clear hK K))) | (refine Go.Mix.walk_step (fun K hK => ?_); go_simp; (try (go_ints; try go_simp)); refine hK _ _ ?_; clear hK K)))
  have xx := hF.X.c1
  have yy := hF.Y.c1
  have fx := hF.fx 1
  have fy := hF.fy 1
  refine Go.Mix.walk_loud rfl ?_ (fun K hK => ?_)
  (first | exact Go.Mix.wanted_none rfl | exact Go.Mix.wanted_tt rfl rfl rfl | exact Go.Mix.wanted_ff rfl rfl rfl)
  (first | go_big_op | go_simp)
  have hG := hF.x1 (Int.tmod ay 30000)
  refine hK _ _ (HJ.out _ hG.drew.cls) ?_
  clear hK K
  have yy := hG.Y.c1
  have fy := hG.fy 1
  (repeat (first | (refine Go.Mix.walk_calm rfl ?_ (fun K hK => ?_); (first | exact Go.Mix.wanted_none rfl | exact Go.Mix.wanted_tt rfl rfl rfl | exact Go.Mix.wanted_ff rfl rfl rfl); go_big_quiet_op; refine hK _ ?_; clear hK K) | (refine Go.Mix.walk_skip ?_ (fun K hK => ?_); (first | exact Go.Mix.wanted_tf rfl rfl rfl | exact Go.Mix.wanted_ft rfl rfl rfl); go_simp; refine hK _ ?_; clear hK K) | (refine Go.Mix.walk_loud rfl ?_ (fun K hK => ?_); (first | exact Go.Mix.wanted_none rfl | exact Go.Mix.wanted_tt rfl rfl rfl | exact Go.Mix.wanted_ff rfl rfl rfl); (first | go_big_op | go_simp); (first | (refine hK _ _ trivial ?_; clear hK K) | (fail; (try dsimp only); refine hK _ _ trivial ?_; clear hK K))) | (refine Go.Mix.walk_step (fun K hK => ?_); go_simp; (try (go_ints; try go_simp)); refine hK _ _ ?_; clear hK K)))
  refine Go.Mix.walk_loud rfl ?_ (fun K hK => ?_)
  (first | exact Go.Mix.wanted_none rfl | exact Go.Mix.wanted_tt rfl rfl rfl | exact Go.Mix.wanted_ff rfl rfl rfl)
  (first | go_big_op | go_simp)
  have hF := (hG.y1 (Int.tmod by_ 30000)).drew
  refine hK _ _ (HJ.out _ hF.cls) ?_
  clear hK K hG xx yy fx fy
  refine Go.Mix.walk_nil ?_
  obtain ⟨w11, hw⟩ : ∃ w11, w11 = ((w10.setCell ⟨N, 1, none⟩ (.int .i32 (Int.tmod ay 30000))).setCell ⟨N + 1, 1, none⟩ (.int .i32 (Int.tmod by_ 30000))).drew := ⟨_, rfl⟩
  rw [← hw] at hF
  rw [← hw]
  clear hw
  go_wp2_with fail
  rw [rounds_succ]
  go_wp2_with fail
  refine Go.Mix.wp_region (fun w' => ∃ i, w' = W i) (by kernel_rfl) (by kernel_rfl) (HJ.out _ hF.drew.cls) ?_
  simp only []
  (repeat (first | (refine Go.Mix.walk_calm rfl ?_ (fun K hK => ?_); (first | exact Go.Mix.wanted_none rfl | exact Go.Mix.wanted_tt rfl rfl rfl | exact Go.Mix.wanted_ff rfl rfl rfl); go_big_quiet_op; refine hK _ ?_; clear hK K) | (refine Go.Mix.walk_skip ?_ (fun K hK => ?_); (first | exact Go.Mix.wanted_tf rfl rfl rfl | exact Go.Mix.wanted_ft rfl rfl rfl); go_simp; refine hK _ ?_; clear hK K) | (refine Go.Mix.walk_loud rfl ?_ (fun K hK => ?_); (first | exact Go.Mix.wanted_none rfl | exact Go.Mix.wanted_tt rfl rfl rfl | exact Go.Mix.wanted_ff rfl rfl rfl); (first | go_big_op | go_simp); (first | (refine hK _ _ trivial ?_; clear hK K) | (fail; (try dsimp only); refine hK _ _ trivial ?_; clear hK K))) | (refine Go.Mix.walk_step (fun K hK => ?_); go_simp; (try (go_ints; try go_simp)); refine hK _ _ ?_; clear hK K)))
  have xx := hF.X.c2
  have yy := hF.Y.c2
  have fx := hF.fx 2
  have fy := hF.fy 2
  refine Go.Mix.walk_loud rfl ?_ (fun K hK => ?_)
  (first | exact Go.Mix.wanted_none rfl | exact Go.Mix.wanted_tt rfl rfl rfl | exact Go.Mix.wanted_ff rfl rfl rfl)
  (first | go_big_op | go_simp)
  have hG := hF.x2 (Int.tmod az 30000)
  refine hK _ _ (HJ.out _ hG.drew.cls) ?_
  clear hK K
  have yy := hG.Y.c2
  have fy := hG.fy 2
  (repeat (first | (refine Go.Mix.walk_calm rfl ?_ (fun K hK => ?_); (first | exact Go.Mix.wanted_none rfl | exact Go.Mix.wanted_tt rfl rfl rfl | exact Go.Mix.wanted_ff rfl rfl rfl); go_big_quiet_op; refine hK _ ?_; clear hK K) | (refine Go.Mix.walk_skip ?_ (fun K hK => ?_); (first | exact Go.Mix.wanted_tf rfl rfl rfl | exact Go.Mix.wanted_ft rfl rfl rfl); go_simp; refine hK _ ?_; clear hK K) | (refine Go.Mix.walk_loud rfl ?_ (fun K hK => ?_); (first | exact Go.Mix.wanted_none rfl | exact Go.Mix.wanted_tt rfl rfl rfl | exact Go.Mix.wanted_ff rfl rfl rfl); (first | go_big_op | go_simp); (first | (refine hK _ _ trivial ?_; clear hK K) | (fail; (try dsimp only); refine hK _ _ trivial ?_; clear hK K))) | (refine Go.Mix.walk_step (fun K hK => ?_); go_simp; (try (go_ints; try go_simp)); refine hK _ _ ?_; clear hK K)))
  refine Go.Mix.walk_loud rfl ?_ (fun K hK => ?_)
  (first | exact Go.Mix.wanted_none rfl | exact Go.Mix.wanted_tt rfl rfl rfl | exact Go.Mix.wanted_ff rfl rfl rfl)
  (first | go_big_op | go_simp)
  have hF := (hG.y2 (Int.tmod bz 30000)).drew
  refine hK _ _ (HJ.out _ hF.cls) ?_
  clear hK K hG xx yy fx fy
  refine Go.Mix.walk_nil ?_
  obtain ⟨w12, hw⟩ : ∃ w12, w12 = ((w11.setCell ⟨N, 2, none⟩ (.int .i32 (Int.tmod az 30000))).setCell ⟨N + 1, 2, none⟩ (.int .i32 (Int.tmod bz 30000))).drew := ⟨_, rfl⟩
  rw [← hw] at hF
  rw [← hw]
  clear hw
  go_wp2_with fail
  rw [rounds_succ]
  obtain ⟨p0, hp0, p0lo, p0hi⟩ := rem_ex ax
  obtain ⟨p1, hp1, p1lo, p1hi⟩ := rem_ex ay
  obtain ⟨p2, hp2, p2lo, p2hi⟩ := rem_ex az
  obtain ⟨r0, hr0, r0lo, r0hi⟩ := rem_ex bx
  obtain ⟨r1, hr1, r1lo, r1hi⟩ := rem_ex by_
  obtain ⟨r2, hr2, r2lo, r2hi⟩ := rem_ex bz
  rw [hp0, hp1, hp2, hr0, hr1, hr2] at hF
  have f0 := hF.X.c0
  have f1 := hF.X.c1
  have f2 := hF.X.c2
  have g0 := hF.Y.c0
  have g1 := hF.Y.c1
  have g2 := hF.Y.c2
  have hP := hF.X
  have hR := hF.Y
  have hB := hF.below
  have hfar := hF.far
  have hsz : N + 2 ≤ w12.heap.size := World.block_lt_of_cell? w12 _ g0
  obtain ⟨z0, hz0, ez0, z0lo, z0hi, nz0⟩ := crs_ex p1 r2 p2 r1 ⟨p1lo, p1hi⟩ ⟨r2lo, r2hi⟩ ⟨p2lo, p2hi⟩ ⟨r1lo, r1hi⟩
  obtain ⟨z1, hz1, ez1, z1lo, z1hi, nz1⟩ := crs_ex p2 r0 p0 r2 ⟨p2lo, p2hi⟩ ⟨r0lo, r0hi⟩ ⟨p0lo, p0hi⟩ ⟨r2lo, r2hi⟩
  obtain ⟨z2, hz2, ez2, z2lo, z2hi, nz2⟩ := crs_ex p0 r1 p1 r0 ⟨p0lo, p0hi⟩ ⟨r1lo, r1hi⟩ ⟨p1lo, p1hi⟩ ⟨r0lo, r0hi⟩
  have S1 : Fx.sums [z0 * p0, z1 * p1, z2 * p2] = 0 := sums_up _ _ _ _ _ _ (by rw [ez0, ez1, ez2]; exact upright p0 p1 p2 r0 r1 r2) ⟨z0lo, z0hi⟩ ⟨z1lo, z1hi⟩ ⟨z2lo, z2hi⟩ ⟨p0lo, p0hi⟩ ⟨p1lo, p1hi⟩ ⟨p2lo, p2hi⟩
  have S2 : Fx.sums [z0 * r0, z1 * r1, z2 * r2] = 0 := sums_up _ _ _ _ _ _ (by rw [ez0, ez1, ez2]; exact upright' p0 p1 p2 r0 r1 r2) ⟨z0lo, z0hi⟩ ⟨z1lo, z1hi⟩ ⟨z2lo, z2hi⟩ ⟨r0lo, r0hi⟩ ⟨r1lo, r1hi⟩ ⟨r2lo, r2hi⟩
  have HS1 := Lib.hid S1
  have HS2 := Lib.hid S2
  have HZ0 := Lib.hid hz0
  have HZ1 := Lib.hid hz1
  have HZ2 := Lib.hid hz2
  have HN0 := Lib.hid nz0
  have HN1 := Lib.hid nz1
  have HN2 := Lib.hid nz2
  clear S1 S2 hz0 hz1 hz2 nz0 nz1 nz2 ez0 ez1 ez2 hp0 hp1 hp2 hr0 hr1 hr2 hF i0 i1 i2 j0 j1 j2 HJ hne
  clear W I
  go_wp2_with fail
  go_at_call 39
  refine (vCross_any p0 p1 p2 r0 r1 r2 0 _ (by omega) (by omega) (by omega) (by omega) (by omega) (by omega) (by omega) (by omega) (by omega) (by omega) (by omega) (by omega)).mono ?_
  rintro e w13 ⟨rfl, hb⟩
  rw [HZ0.out, HZ1.out, HZ2.out]
  have hP := hP.below hb (by omega)
  have hR := hR.below hb (by omega)
  have hB := hB.trans (hb.mono (by omega))
  have hsz := Nat.le_trans hsz hb.size
  go_wp2
  have hb := (Below.refl w13.heap.size w13).alloc (Nat.le_refl _) (Obj.cells #[.int .i32 z0, .int .i32 z1, .int .i32 z2] 45)
  have hP := hP.below hb (by omega)
  have hR := hR.below hb (by omega)
  have hB := hB.trans (hb.mono (by omega))
  have hsz' : w13.heap.size + 1 ≤ (w13.alloc (Obj.cells #[.int .i32 z0, .int .i32 z1, .int .i32 z2] 45)).heap.size := by simp
  have hC : Three (w13.alloc (Obj.cells #[.int .i32 z0, .int .i32 z1, .int .i32 z2] 45)) .i32 w13.heap.size z0 z1 z2 := ⟨by go_simp, by go_simp, by go_simp⟩
  obtain ⟨M, hM⟩ : ∃ M, M = w13.heap.size := ⟨_, rfl⟩
  obtain ⟨w18, hw⟩ : ∃ w18, w18 = w13.alloc (Obj.cells #[.int .i32 z0, .int .i32 z1, .int .i32 z2] 45) := ⟨_, rfl⟩
  rw [← hw] at hP hR hB hsz' hC
  rw [← hM] at hsz' hC hsz
  rw [← hM, ← hw]
  have hsz : N + 2 ≤ M ∧ M + 1 ≤ w18.heap.size := ⟨hsz, hsz'⟩
  clear hsz' hM hw hb
  obtain ⟨I, W, hne, hWI, hIW⟩ := Go.Mix.family (fun v => Three v .i32 N p0 p1 p2 ∧ Three v .i32 (N + 1) r0 r1 r2 ∧ Three v .i32 M z0 z1 z2 ∧ Below w.heap.size w v ∧ (N + 2 ≤ M ∧ M + 1 ≤ v.heap.size)) ⟨hP, hR, hC, hB, hsz⟩
  have i0 : ∀ i, (W i).cell? ⟨N, 0, none⟩ = some (.int .i32 p0) := fun i => (hWI i).1.c0
  have i1 : ∀ i, (W i).cell? ⟨N, 1, none⟩ = some (.int .i32 p1) := fun i => (hWI i).1.c1
  have i2 : ∀ i, (W i).cell? ⟨N, 2, none⟩ = some (.int .i32 p2) := fun i => (hWI i).1.c2
  have j0 : ∀ i, (W i).cell? ⟨N + 1, 0, none⟩ = some (.int .i32 r0) := fun i => (hWI i).2.1.c0
  have j1 : ∀ i, (W i).cell? ⟨N + 1, 1, none⟩ = some (.int .i32 r1) := fun i => (hWI i).2.1.c1
  have j2 : ∀ i, (W i).cell? ⟨N + 1, 2, none⟩ = some (.int .i32 r2) := fun i => (hWI i).2.1.c2
  have k0 : ∀ i, (W i).cell? ⟨M, 0, none⟩ = some (.int .i32 z0) := fun i => (hWI i).2.2.1.c0
  have k1 : ∀ i, (W i).cell? ⟨M, 1, none⟩ = some (.int .i32 z1) := fun i => (hWI i).2.2.1.c1
  have k2 : ∀ i, (W i).cell? ⟨M, 2, none⟩ = some (.int .i32 z2) := fun i => (hWI i).2.2.1.c2
  have HJ := Lib.hid hIW
  clear hWI hIW
  refine Go.Mix.wp_region (fun w' => ∃ i, w' = W i) (by kernel_rfl) (by kernel_rfl) (HJ.out _ ⟨hP.drew, hR.drew, hC.drew, hB.drew, hsz⟩) ?_
  simp only []
  (repeat (first | (refine Go.Mix.walk_calm rfl ?_ (fun K hK => ?_); (first | exact Go.Mix.wanted_none rfl | exact Go.Mix.wanted_tt rfl rfl rfl | exact Go.Mix.wanted_ff rfl rfl rfl); go_big_quiet_op; refine hK _ ?_; clear hK K) | (refine Go.Mix.walk_skip ?_ (fun K hK => ?_); (first | exact Go.Mix.wanted_tf rfl rfl rfl | exact Go.Mix.wanted_ft rfl rfl rfl); go_simp; refine hK _ ?_; clear hK K) | (refine Go.Mix.walk_loud rfl ?_ (fun K hK => ?_); (first | exact Go.Mix.wanted_none rfl | exact Go.Mix.wanted_tt rfl rfl rfl | exact Go.Mix.wanted_ff rfl rfl rfl); (first | go_big_op | go_simp); (first | (refine hK _ _ trivial ?_; clear hK K) | (fail; (try dsimp only); refine hK _ _ trivial ?_; clear hK K))) | (refine Go.Mix.walk_step (fun K hK => ?_); go_simp; (try (go_ints; try go_simp)); refine hK _ _ ?_; clear hK K)))
  (refine Go.Mix.walk_loud rfl ?_ (fun K hK => ?_); (first | exact Go.Mix.wanted_none rfl | exact Go.Mix.wanted_tt rfl rfl rfl | exact Go.Mix.wanted_ff rfl rfl rfl); (first | go_big_op | go_simp); go_at_call 36; refine (vDot_any z0 z1 z2 p0 p1 p2 _ (by omega) (by omega) (by omega) (by omega) (by omega) (by omega) (by omega) (by omega) (by omega) (by omega) (by omega) (by omega)).mono ?_)
  rintro e w14 ⟨rfl, hb⟩
  rw [HS1.out]
  have hP := hP.drew.below hb (by simp; omega)
  have hR := hR.drew.below hb (by simp; omega)
  have hC := hC.drew.below hb (by simp; omega)
  have hB := hB.drew.trans (hb.mono (by simp; omega))
  have hsz : N + 2 ≤ M ∧ M + 1 ≤ w14.heap.size := ⟨hsz.1, Nat.le_trans hsz.2 hb.size⟩
  dsimp only
  (refine hK _ _ (HJ.out _ ⟨hP, hR, hC, hB, hsz⟩) ?_; clear hK K)
  (repeat (first | (refine Go.Mix.walk_calm rfl ?_ (fun K hK => ?_); (first | exact Go.Mix.wanted_none rfl | exact Go.Mix.wanted_tt rfl rfl rfl | exact Go.Mix.wanted_ff rfl rfl rfl); go_big_quiet_op; refine hK _ ?_; clear hK K) | (refine Go.Mix.walk_skip ?_ (fun K hK => ?_); (first | exact Go.Mix.wanted_tf rfl rfl rfl | exact Go.Mix.wanted_ft rfl rfl rfl); go_simp; refine hK _ ?_; clear hK K) | (refine Go.Mix.walk_loud rfl ?_ (fun K hK => ?_); (first | exact Go.Mix.wanted_none rfl | exact Go.Mix.wanted_tt rfl rfl rfl | exact Go.Mix.wanted_ff rfl rfl rfl); (first | go_big_op | go_simp); (first | (refine hK _ _ trivial ?_; clear hK K) | (fail; (try dsimp only); refine hK _ _ trivial ?_; clear hK K))) | (refine Go.Mix.walk_step (fun K hK => ?_); go_simp; (try (go_ints; try go_simp)); refine hK _ _ ?_; clear hK K)))
  (refine Go.Mix.walk_loud rfl ?_ (fun K hK => ?_); (first | exact Go.Mix.wanted_none rfl | exact Go.Mix.wanted_tt rfl rfl rfl | exact Go.Mix.wanted_ff rfl rfl rfl); (first | go_big_op | go_simp); go_at_call 36; refine (vDot_any z0 z1 z2 r0 r1 r2 _ (by omega) (by omega) (by omega) (by omega) (by omega) (by omega) (by omega) (by omega) (by omega) (by omega) (by omega) (by omega)).mono ?_)
  rintro e w15 ⟨rfl, hb⟩
  rw [HS2.out]
  have hP := hP.below hb (by omega)
  have hR := hR.below hb (by omega)
  have hC := hC.below hb (by omega)
  have hB := hB.trans (hb.mono (by omega))
  have hsz : N + 2 ≤ M ∧ M + 1 ≤ w15.heap.size := ⟨hsz.1, Nat.le_trans hsz.2 hb.size⟩
  dsimp only
  (refine hK _ _ (HJ.out _ ⟨hP, hR, hC, hB, hsz⟩) ?_; clear hK K)
  (repeat (first | (refine Go.Mix.walk_calm rfl ?_ (fun K hK => ?_); (first | exact Go.Mix.wanted_none rfl | exact Go.Mix.wanted_tt rfl rfl rfl | exact Go.Mix.wanted_ff rfl rfl rfl); go_big_quiet_op; refine hK _ ?_; clear hK K) | (refine Go.Mix.walk_skip ?_ (fun K hK => ?_); (first | exact Go.Mix.wanted_tf rfl rfl rfl | exact Go.Mix.wanted_ft rfl rfl rfl); go_simp; refine hK _ ?_; clear hK K) | (refine Go.Mix.walk_loud rfl ?_ (fun K hK => ?_); (first | exact Go.Mix.wanted_none rfl | exact Go.Mix.wanted_tt rfl rfl rfl | exact Go.Mix.wanted_ff rfl rfl rfl); (first | go_big_op | go_simp); (first | (refine hK _ _ trivial ?_; clear hK K) | (fail; (try dsimp only); refine hK _ _ trivial ?_; clear hK K))) | (refine Go.Mix.walk_step (fun K hK => ?_); go_simp; (try (go_ints; try go_simp)); refine hK _ _ ?_; clear hK K)))
  (refine Go.Mix.walk_loud rfl ?_ (fun K hK => ?_); (first | exact Go.Mix.wanted_none rfl | exact Go.Mix.wanted_tt rfl rfl rfl | exact Go.Mix.wanted_ff rfl rfl rfl); (first | go_big_op | go_simp); go_at_call 39; refine (vCross_any r0 r1 r2 p0 p1 p2 0 _ (by omega) (by omega) (by omega) (by omega) (by omega) (by omega) (by omega) (by omega) (by omega) (by omega) (by omega) (by omega)).mono ?_)
  rintro e w16 ⟨rfl, hb⟩
  rw [HN0.out, HN1.out, HN2.out]
  have hP := hP.below hb (by omega)
  have hR := hR.below hb (by omega)
  have hC := hC.below hb (by omega)
  have hB := hB.trans (hb.mono (by omega))
  have hsz : N + 2 ≤ M ∧ M + 1 ≤ w16.heap.size := ⟨hsz.1, Nat.le_trans hsz.2 hb.size⟩
  dsimp only
  (refine hK _ _ (HJ.out _ ⟨hP, hR, hC, hB, hsz⟩) ?_; clear hK K)
  (repeat (first | (refine Go.Mix.walk_calm rfl ?_ (fun K hK => ?_); (first | exact Go.Mix.wanted_none rfl | exact Go.Mix.wanted_tt rfl rfl rfl | exact Go.Mix.wanted_ff rfl rfl rfl); go_big_quiet_op; refine hK _ ?_; clear hK K) | (refine Go.Mix.walk_skip ?_ (fun K hK => ?_); (first | exact Go.Mix.wanted_tf rfl rfl rfl | exact Go.Mix.wanted_ft rfl rfl rfl); go_simp; refine hK _ ?_; clear hK K) | (refine Go.Mix.walk_loud rfl ?_ (fun K hK => ?_); (first | exact Go.Mix.wanted_none rfl | exact Go.Mix.wanted_tt rfl rfl rfl | exact Go.Mix.wanted_ff rfl rfl rfl); (first | go_big_op | go_simp); (first | (refine hK _ _ trivial ?_; clear hK K) | (fail; (try dsimp only); refine hK _ _ trivial ?_; clear hK K))) | (refine Go.Mix.walk_step (fun K hK => ?_); go_simp; (try (go_ints; try go_simp)); refine hK _ _ ?_; clear hK K)))
  (refine Go.Mix.walk_loud rfl ?_ (fun K hK => ?_); (first | exact Go.Mix.wanted_none rfl | exact Go.Mix.wanted_tt rfl rfl rfl | exact Go.Mix.wanted_ff rfl rfl rfl); (first | go_big_op | go_simp); go_at_call 33; refine (vNeg_any z0 z1 z2 _ (by omega) (by omega) (by omega) (by omega) (by omega) (by omega)).mono ?_)
  rintro e w17 ⟨rfl, hb⟩
  skip
  have hP := hP.below hb (by omega)
  have hR := hR.below hb (by omega)
  have hC := hC.below hb (by omega)
  have hB := hB.trans (hb.mono (by omega))
  have hsz : N + 2 ≤ M ∧ M + 1 ≤ w17.heap.size := ⟨hsz.1, Nat.le_trans hsz.2 hb.size⟩
  dsimp only
  (refine hK _ _ (HJ.out _ ⟨hP, hR, hC, hB, hsz⟩) ?_; clear hK K)
  (repeat (first | (refine Go.Mix.walk_calm rfl ?_ (fun K hK => ?_); (first | exact Go.Mix.wanted_none rfl | exact Go.Mix.wanted_tt rfl rfl rfl | exact Go.Mix.wanted_ff rfl rfl rfl); go_big_quiet_op; refine hK _ ?_; clear hK K) | (refine Go.Mix.walk_skip ?_ (fun K hK => ?_); (first | exact Go.Mix.wanted_tf rfl rfl rfl | exact Go.Mix.wanted_ft rfl rfl rfl); go_simp; refine hK _ ?_; clear hK K) | (refine Go.Mix.walk_loud rfl ?_ (fun K hK => ?_); (first | exact Go.Mix.wanted_none rfl | exact Go.Mix.wanted_tt rfl rfl rfl | exact Go.Mix.wanted_ff rfl rfl rfl); (first | go_big_op | go_simp); (first | (refine hK _ _ trivial ?_; clear hK K) | (fail; (try dsimp only); refine hK _ _ trivial ?_; clear hK K))) | (refine Go.Mix.walk_step (fun K hK => ?_); go_simp; (try (go_ints; try go_simp)); refine hK _ _ ?_; clear hK K)))
  refine Go.Mix.walk_nil ?_
  go_wp2
  go_ret
  exact ⟨ret_true (by simp), hB⟩
theorem walk_VecProducts (ax ay az bx by_ bz q : Int) (w : World) (wx : (Lit.int .i32 ax).wf = true) (wy : (Lit.int .i32 ay).wf = true) (wz : (Lit.int .i32 az).wf = true) (vx : (Lit.int .i32 bx).wf = true) (vy : (Lit.int .i32 by_).wf = true) (vz : (Lit.int .i32 bz).wf = true) (_ : (Lit.int .i64 q).wf = true) :
    Calls Try.prog 12 #[.agg #[.int .i32 ax, .int .i32 ay, .int .i32 az], .agg #[.int .i32 bx, .int .i32 by_, .int .i32 bz], .int .i64 q] w fun e w' => e = .returned (.bool true) ∧ Below w.heap.size w w' := by
  obtain ⟨axlo, axhi⟩ := bounds_i32 wx
  obtain ⟨aylo, ayhi⟩ := bounds_i32 wy
  obtain ⟨azlo, azhi⟩ := bounds_i32 wz
  obtain ⟨bxlo, bxhi⟩ := bounds_i32 vx
  obtain ⟨by_lo, by_hi⟩ := bounds_i32 vy
  obtain ⟨bzlo, bzhi⟩ := bounds_i32 vz
  exact walk_VecProducts_0 ax ay az bx by_ bz q w axlo axhi aylo ayhi azlo azhi bxlo bxhi by_lo by_hi bzlo bzhi
end Go.Proofs.Ytleodnnkdkgeeaa
