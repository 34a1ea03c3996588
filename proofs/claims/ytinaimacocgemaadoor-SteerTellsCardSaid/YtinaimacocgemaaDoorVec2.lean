/- Contracts of package vec: the products, the length, zero. -/
import Derived.Test.YtinaimacocgemaaDoorVec
import Derived.ChangeKeysEq
namespace Go.Proofs.YtinaimacocgemaaDoor
open Go.RowKit
set_option linter.unusedVariables false

theorem infoV : (Tryd.prog.info? 21).map (fun i => (i.zero, i.size, i.bytes)) = some (some (.int .i32 0), 1, 4) := by kernel_rfl
theorem cellsV : Tryd.prog.cellsOf 21 = 1 := by kernel_rfl
@[go_sem] theorem eql3 (w : World) (x y z x' y' z' : Int) : (Op.equalIn 10000 23 (.agg #[.int .i32 x, .int .i32 y, .int .i32 z]) (.agg #[.int .i32 x', .int .i32 y', .int .i32 z'])).run Tryd.prog w = .ok (x == x' && (y == y' && z == z')) w := by
  obtain ⟨i0, hi, hz0, hz1, hz2⟩ := info_parts infoV
  show (Op.equalIn (9999 + 1) 23 _ _).run Tryd.prog w = _
  rw [run_equalIn_array w 9999 _ _ Tryd.underlying23 hi]
  have h : List.range 3 = [0, 1, 2] := rfl
  rw [h, cellsV]
  have he : ∀ (a b : Int) (w : World), (Op.equalIn 9999 21 (.int .i32 a) (.int .i32 b)).run Tryd.prog w = .ok (a == b) w := fun a b w => run_equalIn_int (P := Tryd.prog) w 9998 21 .i32 .i32 a b Tryd.underlying21
  have p0 : ∀ (a b c : Int) (w : World), (part 21 #[.int .i32 a, .int .i32 b, .int .i32 c] 0).run Tryd.prog w = .ok (.int .i32 a) w := fun a b c w => by kernel_rfl
  have p1 : ∀ (a b c : Int) (w : World), (part 21 #[.int .i32 a, .int .i32 b, .int .i32 c] 1).run Tryd.prog w = .ok (.int .i32 b) w := fun a b c w => by kernel_rfl
  have p2 : ∀ (a b c : Int) (w : World), (part 21 #[.int .i32 a, .int .i32 b, .int .i32 c] 2).run Tryd.prog w = .ok (.int .i32 c) w := fun a b c w => by kernel_rfl
  simp only [Op.eqItems, Sem.run_bind, Nat.mul_one, p0, he, Result.andThen_ok]
  by_cases h1 : x = x' <;> by_cases h2 : y = y' <;> by_cases h3 : z = z' <;> simp [h1, h2, h3, p1, p2, he]

theorem Sum3_at (x y z : Int) (n : Nat) (w : World) (h : Three w .i64 n x y z) (hx : -9223372036854775808 ≤ x ∧ x ≤ 9223372036854775807) (hy : -9223372036854775808 ≤ y ∧ y ≤ 9223372036854775807) (hz : -9223372036854775808 ≤ z ∧ z ≤ 9223372036854775807) :
    Calls Tryd.prog 37 #[.slice (some ⟨n, 0, none⟩) 3 3] w fun e w' => e = .returned (.int .i64 (Fx.sums [x, y, z])) ∧ w = w' := by
  obtain ⟨h0, h1, h2⟩ := h
  refine (Sum_any n 0 3 3 [x, y, z] _ rfl (by decide) ?_ ?_)
  · intro v hv; simp at hv; omega
  · intro j hj
    have hj : j < 3 := hj
    have : j = 0 ∨ j = 1 ∨ j = 2 := by omega
    rcases this with rfl | rfl | rfl <;> assumption

set_option maxHeartbeats 1000000 in
theorem vDot_any (ax ay az bx by_ bz : Int) (w : World) (axlo : -2147483648 ≤ ax) (axhi : ax ≤ 2147483647) (aylo : -2147483648 ≤ ay) (ayhi : ay ≤ 2147483647) (azlo : -2147483648 ≤ az) (azhi : az ≤ 2147483647) (bxlo : -2147483648 ≤ bx) (bxhi : bx ≤ 2147483647) (by_lo : -2147483648 ≤ by_) (by_hi : by_ ≤ 2147483647) (bzlo : -2147483648 ≤ bz) (bzhi : bz ≤ 2147483647) :
    Calls Tryd.prog 21 #[.agg #[.int .i32 ax, .int .i32 ay, .int .i32 az], .agg #[.int .i32 bx, .int .i32 by_, .int .i32 bz]] w fun e w' => e = .returned (.int .i64 (Fx.sums [ax * bx, ay * by_, az * bz])) ∧ Below w.heap.size w w' := by
  have m0 := Fx.mul_bd ax bx 2147483648 2147483648 (by omega) (by omega) (by omega) (by omega)
  have m1 := Fx.mul_bd ay by_ 2147483648 2147483648 (by omega) (by omega) (by omega) (by omega)
  have m2 := Fx.mul_bd az bz 2147483648 2147483648 (by omega) (by omega) (by omega) (by omega)
  go_enter Tryd.func21, Tryd.ntmps21
  go_wp2_with (first | (go_at_call 36; refine (DotC _ _ _ ax ay az bx by_ bz _ ?_ ?_ ?_ axlo axhi aylo ayhi azlo azhi bxlo bxhi by_lo by_hi bzlo bzhi).mono ?_; (· decide); (· exact ⟨by go_simp, by go_simp, by go_simp⟩); (· exact ⟨by go_simp, by go_simp, by go_simp⟩); rintro e w' ⟨rfl, n, rfl⟩; simp only [pick]) | (go_at_call 37; refine (Sum3_at (ax * bx) (ay * by_) (az * bz) _ _ ?_ ?_ ?_ ?_).mono ?_; (· exact ⟨by go_simp, by go_simp, by go_simp⟩); (· omega); (· omega); (· omega); rintro e w' ⟨rfl, rfl⟩) | (go_at_call 35; go_in))
  go_ret
  exact ⟨rfl, by repeat' (first | (with_reducible exact Below.refl _ _) | (with_reducible assumption) | (with_reducible refine Below.setCell ?_ ?_ _) | (with_reducible refine Below.alloc ?_ ?_ _) | (with_reducible refine Below.drew ?_) | (with_reducible refine Below.drawsN ?_ _) | go_size)⟩

theorem mul_fine (a b : Int) (h1 : -2147483648 ≤ a) (h2 : a ≤ 2147483647) (h3 : -2147483648 ≤ b) (h4 : b ≤ 2147483647) : -4611686016279904256 ≤ a * b ∧ a * b ≤ 4611686018427387904 := by
  have e1 := Int.mul_nonneg (show 0 ≤ 2147483647 - a by omega) (show 0 ≤ b + 2147483648 by omega)
  have e2 := Int.mul_nonneg (show 0 ≤ a + 2147483648 by omega) (show 0 ≤ 2147483647 - b by omega)
  have e3 := Int.mul_nonneg (show 0 ≤ 2147483647 - a by omega) (show 0 ≤ 2147483647 - b by omega)
  have e4 := Int.mul_nonneg (show 0 ≤ a + 2147483648 by omega) (show 0 ≤ b + 2147483648 by omega)
  simp only [Int.sub_mul, Int.mul_sub, Int.add_mul, Int.mul_add] at e1 e2 e3 e4
  omega

/-- a part of the cross product -/
def crs (x q : Int) : Int := Fx.sat (x / Fx.pw q)

set_option maxHeartbeats 1000000 in
theorem vSize_any (ax ay az : Int) (w : World) (axlo : -2147483648 ≤ ax) (axhi : ax ≤ 2147483647) (aylo : -2147483648 ≤ ay) (ayhi : ay ≤ 2147483647) (azlo : -2147483648 ≤ az) (azhi : az ≤ 2147483647) :
    Calls Tryd.prog 31 #[.agg #[.int .i32 ax, .int .i32 ay, .int .i32 az]] w fun e w' => e = .returned (.int .i32 (Fx.root (Fx.sums [ax * ax, ay * ay, az * az]))) ∧ Below w.heap.size w w' := by
  have hs := Fx.sums_bd [ax * ax, ay * ay, az * az]
  go_enter Tryd.func31, Tryd.ntmps31
  go_wp2_with (first | (go_at_call 21; refine (vDot_any ax ay az ax ay az _ axlo axhi aylo ayhi azlo azhi axlo axhi aylo ayhi azlo azhi).mono ?_; rintro e w1 ⟨rfl, hb⟩) | (go_at_call 49; (refine (Root_any _ _ (by omega)).mono ?_); rintro e w' ⟨rfl, rfl⟩))
  go_ret
  have hsz := hb.size
  exact ⟨rfl, (((Below.refl _ _).alloc (Nat.le_refl _) _).trans (hb.mono (by simp)))⟩

end Go.Proofs.YtinaimacocgemaaDoor
