/- Contracts of package vec: the products, the length, zero. -/
import Derived.Test.YtinaimacocgemaaVec
import Derived.ChangeKeysEq
namespace Go.Proofs.Ytinaimacocgemaa
open Go.RowKit
set_option linter.unusedVariables false

theorem infoV : (Try.prog.info? 21).map (fun i => (i.zero, i.size, i.bytes)) = some (some (.int .i32 0), 1, 4) := by kernel_rfl
theorem cellsV : Try.prog.cellsOf 21 = 1 := by kernel_rfl
@[go_sem] theorem eql3 (w : World) (x y z x' y' z' : Int) : (Op.equalIn 10000 23 (.agg #[.int .i32 x, .int .i32 y, .int .i32 z]) (.agg #[.int .i32 x', .int .i32 y', .int .i32 z'])).run Try.prog w = .ok (x == x' && (y == y' && z == z')) w := by
  obtain ⟨i0, hi, hz0, hz1, hz2⟩ := info_parts infoV
  show (Op.equalIn (9999 + 1) 23 _ _).run Try.prog w = _
  rw [run_equalIn_array w 9999 _ _ Try.underlying23 hi]
  have h : List.range 3 = [0, 1, 2] := rfl
  rw [h, cellsV]
  have he : ∀ (a b : Int) (w : World), (Op.equalIn 9999 21 (.int .i32 a) (.int .i32 b)).run Try.prog w = .ok (a == b) w := fun a b w => run_equalIn_int (P := Try.prog) w 9998 21 .i32 .i32 a b Try.underlying21
  have p0 : ∀ (a b c : Int) (w : World), (part 21 #[.int .i32 a, .int .i32 b, .int .i32 c] 0).run Try.prog w = .ok (.int .i32 a) w := fun a b c w => by kernel_rfl
  have p1 : ∀ (a b c : Int) (w : World), (part 21 #[.int .i32 a, .int .i32 b, .int .i32 c] 1).run Try.prog w = .ok (.int .i32 b) w := fun a b c w => by kernel_rfl
  have p2 : ∀ (a b c : Int) (w : World), (part 21 #[.int .i32 a, .int .i32 b, .int .i32 c] 2).run Try.prog w = .ok (.int .i32 c) w := fun a b c w => by kernel_rfl
  simp only [Op.eqItems, Sem.run_bind, Nat.mul_one, p0, he, Result.andThen_ok]
  by_cases h1 : x = x' <;> by_cases h2 : y = y' <;> by_cases h3 : z = z' <;> simp [h1, h2, h3, p1, p2, he]

theorem Sum3_at (x y z : Int) (n : Nat) (w : World) (h : Three w .i64 n x y z) (hx : -9223372036854775808 ≤ x ∧ x ≤ 9223372036854775807) (hy : -9223372036854775808 ≤ y ∧ y ≤ 9223372036854775807) (hz : -9223372036854775808 ≤ z ∧ z ≤ 9223372036854775807) :
    Calls Try.prog 70 #[.slice (some ⟨n, 0, none⟩) 3 3] w fun e w' => e = .returned (.int .i64 (Fx.sums [x, y, z])) ∧ w = w' := by
  obtain ⟨h0, h1, h2⟩ := h
  refine (Sum_any n 0 3 3 [x, y, z] _ rfl (by decide) ?_ ?_)
  · intro v hv; simp at hv; omega
  · intro j hj
    have hj : j < 3 := hj
    have : j = 0 ∨ j = 1 ∨ j = 2 := by omega
    rcases this with rfl | rfl | rfl <;> assumption

set_option maxHeartbeats 1000000 in
theorem vDot_any (ax ay az bx by_ bz : Int) (w : World) (axlo : -2147483648 ≤ ax) (axhi : ax ≤ 2147483647) (aylo : -2147483648 ≤ ay) (ayhi : ay ≤ 2147483647) (azlo : -2147483648 ≤ az) (azhi : az ≤ 2147483647) (bxlo : -2147483648 ≤ bx) (bxhi : bx ≤ 2147483647) (by_lo : -2147483648 ≤ by_) (by_hi : by_ ≤ 2147483647) (bzlo : -2147483648 ≤ bz) (bzhi : bz ≤ 2147483647) :
    Calls Try.prog 14 #[.agg #[.int .i32 ax, .int .i32 ay, .int .i32 az], .agg #[.int .i32 bx, .int .i32 by_, .int .i32 bz]] w fun e w' => e = .returned (.int .i64 (Fx.sums [ax * bx, ay * by_, az * bz])) ∧ Below w.heap.size w w' := by
  have m0 := Fx.mul_bd ax bx 2147483648 2147483648 (by omega) (by omega) (by omega) (by omega)
  have m1 := Fx.mul_bd ay by_ 2147483648 2147483648 (by omega) (by omega) (by omega) (by omega)
  have m2 := Fx.mul_bd az bz 2147483648 2147483648 (by omega) (by omega) (by omega) (by omega)
  go_enter Try.func14, Try.ntmps14
  go_wp2_with (first | (go_at_call 69; refine (DotC _ _ _ ax ay az bx by_ bz _ ?_ ?_ ?_ axlo axhi aylo ayhi azlo azhi bxlo bxhi by_lo by_hi bzlo bzhi).mono ?_; (· decide); (· exact ⟨by go_simp, by go_simp, by go_simp⟩); (· exact ⟨by go_simp, by go_simp, by go_simp⟩); rintro e w' ⟨rfl, n, rfl⟩; simp only [pick]) | (go_at_call 70; refine (Sum3_at (ax * bx) (ay * by_) (az * bz) _ _ ?_ ?_ ?_ ?_).mono ?_; (· exact ⟨by go_simp, by go_simp, by go_simp⟩); (· omega); (· omega); (· omega); rintro e w' ⟨rfl, rfl⟩) | (go_at_call 68; go_in))
  go_ret
  exact ⟨rfl, by repeat' (first | (with_reducible exact Below.refl _ _) | (with_reducible assumption) | (with_reducible refine Below.setCell ?_ ?_ _) | (with_reducible refine Below.alloc ?_ ?_ _) | (with_reducible refine Below.drew ?_) | (with_reducible refine Below.drawsN ?_ _) | go_size)⟩

theorem mul_fine (a b : Int) (h1 : -2147483648 ≤ a) (h2 : a ≤ 2147483647) (h3 : -2147483648 ≤ b) (h4 : b ≤ 2147483647) : -4611686016279904256 ≤ a * b ∧ a * b ≤ 4611686018427387904 := by
  have e1 := Int.mul_nonneg (show 0 ≤ 2147483647 - a by omega) (show 0 ≤ b + 2147483648 by omega)
  have e2 := Int.mul_nonneg (show 0 ≤ a + 2147483648 by omega) (show 0 ≤ 2147483647 - b by omega)
  have e3 := Int.mul_nonneg (show 0 ≤ 2147483647 - a by omega) (show 0 ≤ 2147483647 - b by omega)
  have e4 := Int.mul_nonneg (show 0 ≤ a + 2147483648 by omega) (show 0 ≤ b + 2147483648 by omega)
  simp only [Int.sub_mul, Int.mul_sub, Int.add_mul, Int.mul_add] at e1 e2 e3 e4
  omega

set_option maxHeartbeats 1000000 in
theorem CrossC (i : Int) (b1 b2 b3 : Nat) (ax ay az bx by_ bz q : Int) (w : World) (hi : i = 0 ∨ i = 1 ∨ i = 2) (h1 : Three w .i32 b1 ax ay az) (h2 : Three w .i32 b2 bx by_ bz) (h3 : w.cell? ⟨b3, 0, none⟩ = some (.int .i64 q)) (hq0 : 0 ≤ q) (hq1 : q ≤ 31)
    (axlo : -2147483648 ≤ ax) (axhi : ax ≤ 2147483647) (aylo : -2147483648 ≤ ay) (ayhi : ay ≤ 2147483647) (azlo : -2147483648 ≤ az) (azhi : az ≤ 2147483647) (bxlo : -2147483648 ≤ bx) (bxhi : bx ≤ 2147483647) (by_lo : -2147483648 ≤ by_) (by_hi : by_ ≤ 2147483647) (bzlo : -2147483648 ≤ bz) (bzhi : bz ≤ 2147483647) :
    Calls Try.prog 77 #[.int .i64 i, .pointer (some ⟨b1, 0, none⟩), .pointer (some ⟨b2, 0, none⟩), .pointer (some ⟨b3, 0, none⟩)] w fun e w' => e = .returned (.int .i32 (Fx.sat (pick i (ay * bz - az * by_) (az * bx - ax * bz) (ax * by_ - ay * bx) / 2 ^ q.toNat))) ∧ ∃ n, w' = w.drewN n := by
  obtain ⟨p0, p1, p2⟩ := h1
  obtain ⟨q0, q1, q2⟩ := h2
  have pp : 1 ≤ (2 : Int) ^ q.toNat := Int.pow_pos (by decide)
  rcases hi with rfl | rfl | rfl
  · simp only [pick]
    have m1 := mul_fine ay bz (by omega) (by omega) (by omega) (by omega)
    have m2 := mul_fine az by_ (by omega) (by omega) (by omega) (by omega)
    have d0 := Fx.ediv_bd (ay * bz - az * by_) (2 ^ q.toNat) 9223372036854775807 pp (by omega) (by omega)
    have k0 : IntKind.i64.wrap (ay * bz) = ay * bz := IntWalk.i64_in _ (by omega)
    have k1 : IntKind.i64.wrap (az * by_) = az * by_ := IntWalk.i64_in _ (by omega)
    have k2 : IntKind.i64.wrap (ay * bz - az * by_) = ay * bz - az * by_ := IntWalk.i64_in _ (by omega)
    go_enter Try.func77, Try.ntmps77
    go_wp2
    go_quiet (fail)
    go_wp2_with (go_at_call 78; (refine (Sat_any _ _ (by omega) (by omega)).mono ?_); rintro e w' ⟨rfl, rfl⟩)
    go_ret
    exact ⟨rfl, _, rfl⟩
  · simp only [pick]
    have m1 := mul_fine az bx (by omega) (by omega) (by omega) (by omega)
    have m2 := mul_fine ax bz (by omega) (by omega) (by omega) (by omega)
    have d0 := Fx.ediv_bd (az * bx - ax * bz) (2 ^ q.toNat) 9223372036854775807 pp (by omega) (by omega)
    have k0 : IntKind.i64.wrap (az * bx) = az * bx := IntWalk.i64_in _ (by omega)
    have k1 : IntKind.i64.wrap (ax * bz) = ax * bz := IntWalk.i64_in _ (by omega)
    have k2 : IntKind.i64.wrap (az * bx - ax * bz) = az * bx - ax * bz := IntWalk.i64_in _ (by omega)
    go_enter Try.func77, Try.ntmps77
    go_wp2
    go_quiet (fail)
    go_wp2_with (go_at_call 78; (refine (Sat_any _ _ (by omega) (by omega)).mono ?_); rintro e w' ⟨rfl, rfl⟩)
    go_ret
    exact ⟨rfl, _, rfl⟩
  · simp only [pick]
    have m1 := mul_fine ax by_ (by omega) (by omega) (by omega) (by omega)
    have m2 := mul_fine ay bx (by omega) (by omega) (by omega) (by omega)
    have d0 := Fx.ediv_bd (ax * by_ - ay * bx) (2 ^ q.toNat) 9223372036854775807 pp (by omega) (by omega)
    have k0 : IntKind.i64.wrap (ax * by_) = ax * by_ := IntWalk.i64_in _ (by omega)
    have k1 : IntKind.i64.wrap (ay * bx) = ay * bx := IntWalk.i64_in _ (by omega)
    have k2 : IntKind.i64.wrap (ax * by_ - ay * bx) = ax * by_ - ay * bx := IntWalk.i64_in _ (by omega)
    go_enter Try.func77, Try.ntmps77
    go_wp2
    go_quiet (fail)
    go_wp2_with (go_at_call 78; (refine (Sat_any _ _ (by omega) (by omega)).mono ?_); rintro e w' ⟨rfl, rfl⟩)
    go_ret
    exact ⟨rfl, _, rfl⟩

/-- a part of the cross product -/
def crs (x q : Int) : Int := Fx.sat (x / Fx.pw q)

set_option maxHeartbeats 1000000 in
theorem vCross_any (ax ay az bx by_ bz q : Int) (w : World) (axlo : -2147483648 ≤ ax) (axhi : ax ≤ 2147483647) (aylo : -2147483648 ≤ ay) (ayhi : ay ≤ 2147483647) (azlo : -2147483648 ≤ az) (azhi : az ≤ 2147483647) (bxlo : -2147483648 ≤ bx) (bxhi : bx ≤ 2147483647) (by_lo : -2147483648 ≤ by_) (by_hi : by_ ≤ 2147483647) (bzlo : -2147483648 ≤ bz) (bzhi : bz ≤ 2147483647) :
    Calls Try.prog 18 #[.agg #[.int .i32 ax, .int .i32 ay, .int .i32 az], .agg #[.int .i32 bx, .int .i32 by_, .int .i32 bz], .int .i64 q] w fun e w' => e = .returned (.agg #[.int .i32 (crs (ay * bz - az * by_) q), .int .i32 (crs (az * bx - ax * bz) q), .int .i32 (crs (ax * by_ - ay * bx) q)]) ∧ Below w.heap.size w w' := by
  unfold crs Fx.pw
  rcases (by unfold Fx.fb; omega : (q ≤ 0 ∧ Fx.fb q = 0) ∨ (31 < q ∧ Fx.fb q = 31) ∨ (0 < q ∧ q ≤ 31 ∧ Fx.fb q = q)) with ⟨h, e⟩ | ⟨h, e⟩ | ⟨h, h', e⟩
  · rw [e]
    clear e
    go_enter Try.func18, Try.ntmps18
    go_wp2_with (first | (go_at_call 77; refine (CrossC _ _ _ _ ax ay az bx by_ bz 0 _ ?_ ?_ ?_ ?_ ?_ ?_ axlo axhi aylo ayhi azlo azhi bxlo bxhi by_lo by_hi bzlo bzhi).mono ?_; (· decide); (· exact ⟨by go_simp, by go_simp, by go_simp⟩); (· exact ⟨by go_simp, by go_simp, by go_simp⟩); (· go_simp); (· omega); (· omega); rintro e w' ⟨rfl, n, rfl⟩) | go_in)
    exact bodyPost_ret (v := .agg #[.int .i32 (Fx.sat ((ay * bz - az * by_) / 2 ^ (0 : Int).toNat)), .int .i32 (Fx.sat ((az * bx - ax * bz) / 2 ^ (0 : Int).toNat)), .int .i32 (Fx.sat ((ax * by_ - ay * bx) / 2 ^ (0 : Int).toNat))]) (by simp [results, Try.results18, go_sem, pick]) rfl ⟨rfl, by repeat' (first | (with_reducible exact Below.refl _ _) | (with_reducible assumption) | (with_reducible refine Below.setCell ?_ ?_ _) | (with_reducible refine Below.alloc ?_ ?_ _) | (with_reducible refine Below.drew ?_) | (with_reducible refine Below.drawsN ?_ _) | go_size)⟩
  · rw [e]
    clear e
    go_enter Try.func18, Try.ntmps18
    go_wp2_with (first | (go_at_call 77; refine (CrossC _ _ _ _ ax ay az bx by_ bz 31 _ ?_ ?_ ?_ ?_ ?_ ?_ axlo axhi aylo ayhi azlo azhi bxlo bxhi by_lo by_hi bzlo bzhi).mono ?_; (· decide); (· exact ⟨by go_simp, by go_simp, by go_simp⟩); (· exact ⟨by go_simp, by go_simp, by go_simp⟩); (· go_simp); (· omega); (· omega); rintro e w' ⟨rfl, n, rfl⟩) | go_in)
    exact bodyPost_ret (v := .agg #[.int .i32 (Fx.sat ((ay * bz - az * by_) / 2 ^ (31 : Int).toNat)), .int .i32 (Fx.sat ((az * bx - ax * bz) / 2 ^ (31 : Int).toNat)), .int .i32 (Fx.sat ((ax * by_ - ay * bx) / 2 ^ (31 : Int).toNat))]) (by simp [results, Try.results18, go_sem, pick]) rfl ⟨rfl, by repeat' (first | (with_reducible exact Below.refl _ _) | (with_reducible assumption) | (with_reducible refine Below.setCell ?_ ?_ _) | (with_reducible refine Below.alloc ?_ ?_ _) | (with_reducible refine Below.drew ?_) | (with_reducible refine Below.drawsN ?_ _) | go_size)⟩
  · rw [e]
    clear e
    go_enter Try.func18, Try.ntmps18
    go_wp2_with (first | (go_at_call 77; refine (CrossC _ _ _ _ ax ay az bx by_ bz q _ ?_ ?_ ?_ ?_ ?_ ?_ axlo axhi aylo ayhi azlo azhi bxlo bxhi by_lo by_hi bzlo bzhi).mono ?_; (· decide); (· exact ⟨by go_simp, by go_simp, by go_simp⟩); (· exact ⟨by go_simp, by go_simp, by go_simp⟩); (· go_simp); (· omega); (· omega); rintro e w' ⟨rfl, n, rfl⟩) | go_in)
    exact bodyPost_ret (v := .agg #[.int .i32 (Fx.sat ((ay * bz - az * by_) / 2 ^ q.toNat)), .int .i32 (Fx.sat ((az * bx - ax * bz) / 2 ^ q.toNat)), .int .i32 (Fx.sat ((ax * by_ - ay * bx) / 2 ^ q.toNat))]) (by simp [results, Try.results18, go_sem, pick]) rfl ⟨rfl, by repeat' (first | (with_reducible exact Below.refl _ _) | (with_reducible assumption) | (with_reducible refine Below.setCell ?_ ?_ _) | (with_reducible refine Below.alloc ?_ ?_ _) | (with_reducible refine Below.drew ?_) | (with_reducible refine Below.drawsN ?_ _) | go_size)⟩

set_option maxHeartbeats 1000000 in
theorem vSize_any (ax ay az : Int) (w : World) (axlo : -2147483648 ≤ ax) (axhi : ax ≤ 2147483647) (aylo : -2147483648 ≤ ay) (ayhi : ay ≤ 2147483647) (azlo : -2147483648 ≤ az) (azhi : az ≤ 2147483647) :
    Calls Try.prog 63 #[.agg #[.int .i32 ax, .int .i32 ay, .int .i32 az]] w fun e w' => e = .returned (.int .i32 (Fx.root (Fx.sums [ax * ax, ay * ay, az * az]))) ∧ Below w.heap.size w w' := by
  have hs := Fx.sums_bd [ax * ax, ay * ay, az * az]
  go_enter Try.func63, Try.ntmps63
  go_wp2_with (first | (go_at_call 14; refine (vDot_any ax ay az ax ay az _ axlo axhi aylo ayhi azlo azhi axlo axhi aylo ayhi azlo azhi).mono ?_; rintro e w1 ⟨rfl, hb⟩) | (go_at_call 105; (refine (Root_any _ _ (by omega)).mono ?_); rintro e w' ⟨rfl, rfl⟩))
  go_ret
  have hsz := hb.size
  exact ⟨rfl, (((Below.refl _ _).alloc (Nat.le_refl _) _).trans (hb.mono (by simp)))⟩

end Go.Proofs.Ytinaimacocgemaa
