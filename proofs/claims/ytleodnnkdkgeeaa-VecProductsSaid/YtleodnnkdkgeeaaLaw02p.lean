/- VecProducts: the reference's answers. -/
import Derived.Test.YtleodnnkdkgeeaaLaw02
import Derived.Handy
namespace Go.Proofs.Ytleodnnkdkgeeaa
open Go.RowKit
set_option linter.unusedVariables false

/-- Six cells of a block. -/
structure Six (w : World) (b : Nat) (x0 x1 x2 y0 y1 y2 : Int) : Prop where
  c0 : w.cell? ⟨b, 0, none⟩ = some (.int .i32 x0)
  c1 : w.cell? ⟨b, 1, none⟩ = some (.int .i32 x1)
  c2 : w.cell? ⟨b, 2, none⟩ = some (.int .i32 x2)
  c3 : w.cell? ⟨b, 3, none⟩ = some (.int .i32 y0)
  c4 : w.cell? ⟨b, 4, none⟩ = some (.int .i32 y1)
  c5 : w.cell? ⟨b, 5, none⟩ = some (.int .i32 y2)

set_option maxHeartbeats 1000000 in
theorem far_no (b : Nat) (x0 x1 x2 y0 y1 y2 : Int) (w : World) (h : Six w b x0 x1 x2 y0 y1 y2)
    (e0 : (x0 == -2147483648) = false) (e1 : (x1 == -2147483648) = false) (e2 : (x2 == -2147483648) = false) (e3 : (y0 == -2147483648) = false) (e4 : (y1 == -2147483648) = false) (e5 : (y2 == -2147483648) = false) :
    Calls Try.prog 38 #[.slice (some ⟨b, 0, none⟩) 2 2] w fun e w' => e = .returned (.bool false) ∧ Below w.heap.size w w' := by
  obtain ⟨c0, c1, c2, c3, c4, c5⟩ := h
  have lb := World.block_lt_of_cell? w _ c0
  go_enter Try.func38, Try.ntmps38
  go_wp2
  refine wp_loop_rounds 3 ?_
  rw [rounds_succ]
  go_wp2
  refine wp_loop_rounds 4 ?_
  repeat any_goals (rw [rounds_succ]; go_wp2)
  refine wp_loop_rounds 4 ?_
  repeat any_goals (rw [rounds_succ]; go_wp2)
  go_ret
  exact ⟨rfl, by repeat' (first | (with_reducible exact Below.refl _ _) | (with_reducible assumption) | (with_reducible refine Below.setCell ?_ ?_ _) | (with_reducible refine Below.alloc ?_ ?_ _) | (with_reducible refine Below.drew ?_) | (with_reducible refine Below.drawsN ?_ _) | go_size)⟩

set_option maxHeartbeats 4000000 in
theorem far_yes (b : Nat) (x0 x1 x2 y0 y1 y2 : Int) (w : World) (h : Six w b x0 x1 x2 y0 y1 y2)
    (e : (x0 == -2147483648) = true ∨ (x1 == -2147483648) = true ∨ (x2 == -2147483648) = true ∨ (y0 == -2147483648) = true ∨ (y1 == -2147483648) = true ∨ (y2 == -2147483648) = true) :
    Calls Try.prog 38 #[.slice (some ⟨b, 0, none⟩) 2 2] w fun e w' => e = .returned (.bool true) ∧ Below w.heap.size w w' := by
  obtain ⟨c0, c1, c2, c3, c4, c5⟩ := h
  have lb := World.block_lt_of_cell? w _ c0
  cases e0 : (x0 == -2147483648)
  case true =>
    clear e
    go_enter Try.func38, Try.ntmps38
    go_wp2
    refine wp_loop_rounds 3 ?_
    rw [rounds_succ]
    go_wp2
    refine wp_loop_rounds 4 ?_
    repeat any_goals (rw [rounds_succ]; go_wp2)
    go_ret
    exact ⟨rfl, by repeat' (first | (with_reducible exact Below.refl _ _) | (with_reducible assumption) | (with_reducible refine Below.setCell ?_ ?_ _) | (with_reducible refine Below.alloc ?_ ?_ _) | (with_reducible refine Below.drew ?_) | (with_reducible refine Below.drawsN ?_ _) | go_size)⟩
  cases e1 : (x1 == -2147483648)
  case true =>
    clear e
    go_enter Try.func38, Try.ntmps38
    go_wp2
    refine wp_loop_rounds 3 ?_
    rw [rounds_succ]
    go_wp2
    refine wp_loop_rounds 4 ?_
    repeat any_goals (rw [rounds_succ]; go_wp2)
    go_ret
    exact ⟨rfl, by repeat' (first | (with_reducible exact Below.refl _ _) | (with_reducible assumption) | (with_reducible refine Below.setCell ?_ ?_ _) | (with_reducible refine Below.alloc ?_ ?_ _) | (with_reducible refine Below.drew ?_) | (with_reducible refine Below.drawsN ?_ _) | go_size)⟩
  cases e2 : (x2 == -2147483648)
  case true =>
    clear e
    go_enter Try.func38, Try.ntmps38
    go_wp2
    refine wp_loop_rounds 3 ?_
    rw [rounds_succ]
    go_wp2
    refine wp_loop_rounds 4 ?_
    repeat any_goals (rw [rounds_succ]; go_wp2)
    go_ret
    exact ⟨rfl, by repeat' (first | (with_reducible exact Below.refl _ _) | (with_reducible assumption) | (with_reducible refine Below.setCell ?_ ?_ _) | (with_reducible refine Below.alloc ?_ ?_ _) | (with_reducible refine Below.drew ?_) | (with_reducible refine Below.drawsN ?_ _) | go_size)⟩
  cases e3 : (y0 == -2147483648)
  case true =>
    clear e
    go_enter Try.func38, Try.ntmps38
    go_wp2
    refine wp_loop_rounds 3 ?_
    rw [rounds_succ]
    go_wp2
    refine wp_loop_rounds 4 ?_
    repeat any_goals (rw [rounds_succ]; go_wp2)
    refine wp_loop_rounds 4 ?_
    repeat any_goals (rw [rounds_succ]; go_wp2)
    go_ret
    exact ⟨rfl, by repeat' (first | (with_reducible exact Below.refl _ _) | (with_reducible assumption) | (with_reducible refine Below.setCell ?_ ?_ _) | (with_reducible refine Below.alloc ?_ ?_ _) | (with_reducible refine Below.drew ?_) | (with_reducible refine Below.drawsN ?_ _) | go_size)⟩
  cases e4 : (y1 == -2147483648)
  case true =>
    clear e
    go_enter Try.func38, Try.ntmps38
    go_wp2
    refine wp_loop_rounds 3 ?_
    rw [rounds_succ]
    go_wp2
    refine wp_loop_rounds 4 ?_
    repeat any_goals (rw [rounds_succ]; go_wp2)
    refine wp_loop_rounds 4 ?_
    repeat any_goals (rw [rounds_succ]; go_wp2)
    go_ret
    exact ⟨rfl, by repeat' (first | (with_reducible exact Below.refl _ _) | (with_reducible assumption) | (with_reducible refine Below.setCell ?_ ?_ _) | (with_reducible refine Below.alloc ?_ ?_ _) | (with_reducible refine Below.drew ?_) | (with_reducible refine Below.drawsN ?_ _) | go_size)⟩
  cases e5 : (y2 == -2147483648)
  case true =>
    clear e
    go_enter Try.func38, Try.ntmps38
    go_wp2
    refine wp_loop_rounds 3 ?_
    rw [rounds_succ]
    go_wp2
    refine wp_loop_rounds 4 ?_
    repeat any_goals (rw [rounds_succ]; go_wp2)
    refine wp_loop_rounds 4 ?_
    repeat any_goals (rw [rounds_succ]; go_wp2)
    go_ret
    exact ⟨rfl, by repeat' (first | (with_reducible exact Below.refl _ _) | (with_reducible assumption) | (with_reducible refine Below.setCell ?_ ?_ _) | (with_reducible refine Below.alloc ?_ ?_ _) | (with_reducible refine Below.drew ?_) | (with_reducible refine Below.drawsN ?_ _) | go_size)⟩
  exfalso
  simp [e0, e1, e2, e3, e4, e5] at e

set_option maxRecDepth 100000 in
set_option maxHeartbeats 4000000 in
theorem rCross_any (ax ay az bx by_ bz q : Int) (w : World) (axlo : -2147483648 ≤ ax) (axhi : ax ≤ 2147483647) (aylo : -2147483648 ≤ ay) (ayhi : ay ≤ 2147483647) (azlo : -2147483648 ≤ az) (azhi : az ≤ 2147483647) (bxlo : -2147483648 ≤ bx) (bxhi : bx ≤ 2147483647) (by_lo : -2147483648 ≤ by_) (by_hi : by_ ≤ 2147483647) (bzlo : -2147483648 ≤ bz) (bzhi : bz ≤ 2147483647) :
    Calls Try.prog 40 #[.agg #[.int .i32 ax, .int .i32 ay, .int .i32 az], .agg #[.int .i32 bx, .int .i32 by_, .int .i32 bz], .int .i64 q] w fun e w' => e = .returned (.agg #[.int .i32 (crs (ay * bz - az * by_) q), .int .i32 (crs (az * bx - ax * bz) q), .int .i32 (crs (ax * by_ - ay * bx) q)]) ∧ Below w.heap.size w w' := by
  unfold crs
  have p0 := Fx.pw_pos q
  have p1 := Fx.pw_hi q
  have m1 := mul_fine ay bz (by omega) (by omega) (by omega) (by omega)
  have m2 := mul_fine az by_ (by omega) (by omega) (by omega) (by omega)
  have m3 := mul_fine az bx (by omega) (by omega) (by omega) (by omega)
  have m4 := mul_fine ax bz (by omega) (by omega) (by omega) (by omega)
  have m5 := mul_fine ax by_ (by omega) (by omega) (by omega) (by omega)
  have m6 := mul_fine ay bx (by omega) (by omega) (by omega) (by omega)
  have d1 := Fx.ediv_bd (ay * bz - az * by_) (Fx.pw q) 9223372036854775807 p0 (by omega) (by omega)
  have d2 := Fx.ediv_bd (az * bx - ax * bz) (Fx.pw q) 9223372036854775807 p0 (by omega) (by omega)
  have d3 := Fx.ediv_bd (ax * by_ - ay * bx) (Fx.pw q) 9223372036854775807 p0 (by omega) (by omega)
  go_enter Try.func40, Try.ntmps40
  go_wp2_with (go_at_call 22; (refine (Power_any _ _).mono ?_); rintro e w' ⟨rfl, rfl⟩)
  obtain ⟨W0, hW0⟩ : ∃ W0, W0 = ((w.alloc (.cells #[.int .i32 ax, .int .i32 ay, .int .i32 az] 45)).alloc (.cells #[.int .i32 bx, .int .i32 by_, .int .i32 bz] 45)).alloc (.cells #[.int .i32 0, .int .i32 0, .int .i32 0] 45) := ⟨_, rfl⟩
  have hA : Three W0 .i32 w.heap.size ax ay az := by rw [hW0]; exact ⟨by go_simp, by go_simp, by go_simp⟩
  have hA2 : Three W0 .i32 (w.heap.size + 1) bx by_ bz := by rw [hW0]; exact ⟨by go_simp, by go_simp, by go_simp⟩
  have hA3 : Three W0 .i32 (w.heap.size + 1 + 1) 0 0 0 := by rw [hW0]; exact ⟨by go_simp, by go_simp, by go_simp⟩
  have hF : ∀ j, W0.frozen? ⟨w.heap.size + 1 + 1, j, none⟩ = false := by intro j; rw [hW0]; go_simp
  have hB : Below w.heap.size w W0 := by rw [hW0]; repeat' (first | (with_reducible exact Below.refl _ _) | (with_reducible assumption) | (with_reducible refine Below.setCell ?_ ?_ _) | (with_reducible refine Below.alloc ?_ ?_ _) | (with_reducible refine Below.drew ?_) | (with_reducible refine Below.drawsN ?_ _) | go_size)
  rw [← hW0]
  clear hW0
  have r0 := hA3.c0
  have r1 := hA3.c1
  have r2 := hA3.c2
  have f0 := hF 0
  have f1 := hF 1
  have f2 := hF 2
  obtain ⟨I, W, hne, hWI, hIW⟩ := Go.Mix.family (fun v => Three v .i32 w.heap.size ax ay az ∧ Three v .i32 (w.heap.size + 1) bx by_ bz) ⟨hA, hA2⟩
  have i0 : ∀ i, (W i).cell? ⟨w.heap.size, 0, none⟩ = some (.int .i32 ax) := fun i => (hWI i).1.c0
  have i1 : ∀ i, (W i).cell? ⟨w.heap.size, 1, none⟩ = some (.int .i32 ay) := fun i => (hWI i).1.c1
  have i2 : ∀ i, (W i).cell? ⟨w.heap.size, 2, none⟩ = some (.int .i32 az) := fun i => (hWI i).1.c2
  have j0 : ∀ i, (W i).cell? ⟨w.heap.size + 1, 0, none⟩ = some (.int .i32 bx) := fun i => (hWI i).2.c0
  have j1 : ∀ i, (W i).cell? ⟨w.heap.size + 1, 1, none⟩ = some (.int .i32 by_) := fun i => (hWI i).2.c1
  have j2 : ∀ i, (W i).cell? ⟨w.heap.size + 1, 2, none⟩ = some (.int .i32 bz) := fun i => (hWI i).2.c2
  have HJ := Lib.hid hIW
  clear hWI hIW hF hA3
  refine Go.Mix.wp_region (fun w' => ∃ i, w' = W i) (by kernel_rfl) (by kernel_rfl) (HJ.out _ ⟨hA.drew, hA2.drew⟩) ?_
  simp only []
  repeat (first | (refine Go.Mix.walk_calm rfl ?_ (fun K hK => ?_); (first | exact Go.Mix.wanted_none rfl | exact Go.Mix.wanted_tt rfl rfl rfl | exact Go.Mix.wanted_ff rfl rfl rfl); go_big_quiet_op; refine hK _ ?_; clear hK K) | (refine Go.Mix.walk_skip ?_ (fun K hK => ?_); (first | exact Go.Mix.wanted_tf rfl rfl rfl | exact Go.Mix.wanted_ft rfl rfl rfl); go_simp; refine hK _ ?_; clear hK K) | (refine Go.Mix.walk_loud rfl ?_ (fun K hK => ?_); (first | exact Go.Mix.wanted_none rfl | exact Go.Mix.wanted_tt rfl rfl rfl | exact Go.Mix.wanted_ff rfl rfl rfl); (first | go_big_op | go_simp); (first | (refine hK _ _ (HJ.out _ ⟨hA.drew, hA2.drew⟩) ?_; clear hK K) | ((first | (go_at_call 24; (with_reducible refine (Down_any _ _ _ ?_ ?_ ?_ ?_).mono ?_); (· omega); (· omega); (· omega); (· omega); rintro e w' ⟨rfl, rfl⟩) | (go_at_call 17; (with_reducible refine (rSat_any _ _ ?_ ?_).mono ?_); (· omega); (· omega); rintro e w' ⟨rfl, rfl⟩)); (try dsimp only); refine hK _ _ (HJ.out _ ⟨hA.drew, hA2.drew⟩) ?_; clear hK K))) | (refine Go.Mix.walk_step (fun K hK => ?_); go_simp; (try (go_ints; try go_simp)); refine hK _ _ ?_; clear hK K))
  refine Go.Mix.walk_loud rfl ?_ (fun K hK => ?_)
  (first | exact Go.Mix.wanted_none rfl | exact Go.Mix.wanted_tt rfl rfl rfl | exact Go.Mix.wanted_ff rfl rfl rfl)
  (first | go_big_op | go_simp)
  have b0 := hA.c0
  have b1 := hA.c1
  have b2 := hA.c2
  have b3 := hA2.c0
  have b4 := hA2.c1
  have b5 := hA2.c2
  refine hK _ _ (HJ.out _ ⟨⟨by go_simp, by go_simp, by go_simp⟩, ⟨by go_simp, by go_simp, by go_simp⟩⟩) ?_
  clear hK K
  refine Go.Mix.walk_nil ?_
  go_wp2
  exact bodyPost_ret (v := .agg #[.int .i32 (Fx.sat ((ay * bz - az * by_) / Fx.pw q)), .int .i32 (Fx.sat ((az * bx - ax * bz) / Fx.pw q)), .int .i32 (Fx.sat ((ax * by_ - ay * bx) / Fx.pw q))]) (by simp [results, Try.results40, go_sem, r0, r1, r2]) rfl ⟨rfl, by repeat' (first | (with_reducible exact Below.refl _ _) | (with_reducible assumption) | (with_reducible refine Below.setCell ?_ ?_ _) | (with_reducible refine Below.alloc ?_ ?_ _) | (with_reducible refine Below.drew ?_) | (with_reducible refine Below.drawsN ?_ _) | go_size)⟩
end Go.Proofs.Ytleodnnkdkgeeaa
