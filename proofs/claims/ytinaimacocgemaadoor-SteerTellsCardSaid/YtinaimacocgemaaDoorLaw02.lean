/- Layer 2's statements: helpers; VecClamps. -/
import Derived.Test.YtinaimacocgemaaDoorVec2
import Derived.Test.YtinaimacocgemaaDoorMix
import Derived.OpenShut
namespace Go.Proofs.YtinaimacocgemaaDoor
open Go.RowKit
set_option linter.unusedVariables false

theorem ret_true {b : Bool} (h : b = true) : Ending.returned (.bool b) = .returned (.bool true) := by rw [h]

theorem Three.below {w w' : World} {k : IntKind} {b B : Nat} {x y z : Int} (h : Three w k b x y z) (hb : Below B w w') (hlt : b < B) : Three w' k b x y z :=
  ⟨(hb.cell (p := ⟨b, 0, none⟩) hlt).trans h.c0, (hb.cell (p := ⟨b, 1, none⟩) hlt).trans h.c1, (hb.cell (p := ⟨b, 2, none⟩) hlt).trans h.c2⟩

theorem Three.drew {w : World} {k : IntKind} {b : Nat} {x y z : Int} (h : Three w k b x y z) : Three w.drew k b x y z := ⟨h.c0, h.c1, h.c2⟩

@[go_sem] theorem idx0 (w : World) (x y z : Int) : (Instr.index 23 (.agg #[.int .i32 x, .int .i32 y, .int .i32 z]) (.int .i64 0)).run Tryd.prog w = .ok (.int .i32 x) w := by kernel_rfl
@[go_sem] theorem idx1 (w : World) (x y z : Int) : (Instr.index 23 (.agg #[.int .i32 x, .int .i32 y, .int .i32 z]) (.int .i64 1)).run Tryd.prog w = .ok (.int .i32 y) w := by kernel_rfl
@[go_sem] theorem idx2 (w : World) (x y z : Int) : (Instr.index 23 (.agg #[.int .i32 x, .int .i32 y, .int .i32 z]) (.int .i64 2)).run Tryd.prog w = .ok (.int .i32 z) w := by kernel_rfl

/-- the sum of the first k products -/
def dots (k : Nat) (x y z : Int) : Int := Fx.sums ([x, y, z].take k)

set_option maxRecDepth 100000 in
set_option maxHeartbeats 1000000 in
theorem rDot_any (ax ay az bx by_ bz : Int) (w : World) (axlo : -2147483648 ≤ ax) (axhi : ax ≤ 2147483647) (aylo : -2147483648 ≤ ay) (ayhi : ay ≤ 2147483647) (azlo : -2147483648 ≤ az) (azhi : az ≤ 2147483647) (bxlo : -2147483648 ≤ bx) (bxhi : bx ≤ 2147483647) (by_lo : -2147483648 ≤ by_) (by_hi : by_ ≤ 2147483647) (bzlo : -2147483648 ≤ bz) (bzhi : bz ≤ 2147483647) :
    Calls Tryd.prog 15 #[.agg #[.int .i32 ax, .int .i32 ay, .int .i32 az], .agg #[.int .i32 bx, .int .i32 by_, .int .i32 bz]] w fun e w' => e = .returned (.int .i64 (Fx.sums [ax * bx, ay * by_, az * bz])) ∧ Below w.heap.size w w' := by
  have m0 := Fx.mul_bd ax bx 2147483648 2147483648 (by omega) (by omega) (by omega) (by omega)
  have m1 := Fx.mul_bd ay by_ 2147483648 2147483648 (by omega) (by omega) (by omega) (by omega)
  have m2 := Fx.mul_bd az bz 2147483648 2147483648 (by omega) (by omega) (by omega) (by omega)
  have k0 : IntKind.i64.wrap (ax * bx) = ax * bx := IntWalk.i64_in _ (by omega)
  have k1 : IntKind.i64.wrap (ay * by_) = ay * by_ := IntWalk.i64_in _ (by omega)
  have k2 : IntKind.i64.wrap (az * bz) = az * bz := IntWalk.i64_in _ (by omega)
  go_enter Tryd.func15, Tryd.ntmps15
  go_wp2
  go_loopw [5, 6] (fun s i wr => ∃ k : Nat, k ≤ 3 ∧ i = .int .i64 k ∧ s = .int .i64 (dots k (ax * bx) (ay * by_) (az * bz)) ∧ ∃ n, wr = ((w.alloc (.cells #[.int .i32 ax, .int .i32 ay, .int .i32 az] 23)).alloc (.cells #[.int .i32 bx, .int .i32 by_, .int .i32 bz] 23)).drewN n) (fun _ i _ => 3 - (intOf i).toNat)
  case atStart => exact ⟨0, by decide, rfl, rfl, 0, rfl⟩
  case round =>
    obtain ⟨k, hk, rfl, rfl, n, rfl⟩ := hrel
    match k, hk with
    | 0, _ =>
      have hs : dots 1 (ax * bx) (ay * by_) (az * bz) = Fx.sat64 (dots 0 (ax * bx) (ay * by_) (az * bz) + ax * bx) := by simp [dots, Fx.sums]
      have hbd := Fx.sums_bd ([ax * bx, ay * by_, az * bz].take 0)
      have hbd2 : -9223372036854775808 ≤ dots 0 (ax * bx) (ay * by_) (az * bz) ∧ dots 0 (ax * bx) (ay * by_) (az * bz) ≤ 9223372036854775807 := hbd
      clear hbd
      obtain ⟨s, hse⟩ : ∃ s, s = dots 0 (ax * bx) (ay * by_) (az * bz) := ⟨_, rfl⟩
      rw [← hse] at hs hbd2
      rw [← hse]
      have HS := Lib.hid hs
      clear hs hse
      rcases Fx.sat64_cases (s + ax * bx) with ⟨h1, h2⟩ | ⟨h1, h2⟩ | ⟨h1, h1', h2⟩
      all_goals
        have H2 := Lib.hid h2
        clear h2
        go_wp2
        go_quiet (fail)
        go_wp2
        all_goals
          go_roundw
          case rel => exact ⟨1, by decide, by go_num, by rw [HS.out, H2.out], _, rfl⟩
          case measure => simp [intOf]
    | 1, _ =>
      have hs : dots 2 (ax * bx) (ay * by_) (az * bz) = Fx.sat64 (dots 1 (ax * bx) (ay * by_) (az * bz) + ay * by_) := by simp [dots, Fx.sums]
      have hbd := Fx.sums_bd ([ax * bx, ay * by_, az * bz].take 1)
      have hbd2 : -9223372036854775808 ≤ dots 1 (ax * bx) (ay * by_) (az * bz) ∧ dots 1 (ax * bx) (ay * by_) (az * bz) ≤ 9223372036854775807 := hbd
      clear hbd
      obtain ⟨s, hse⟩ : ∃ s, s = dots 1 (ax * bx) (ay * by_) (az * bz) := ⟨_, rfl⟩
      rw [← hse] at hs hbd2
      rw [← hse]
      have HS := Lib.hid hs
      clear hs hse
      rcases Fx.sat64_cases (s + ay * by_) with ⟨h1, h2⟩ | ⟨h1, h2⟩ | ⟨h1, h1', h2⟩
      all_goals
        have H2 := Lib.hid h2
        clear h2
        go_wp2
        go_quiet (fail)
        go_wp2
        all_goals
          go_roundw
          case rel => exact ⟨2, by decide, by go_num, by rw [HS.out, H2.out], _, rfl⟩
          case measure => simp [intOf]
    | 2, _ =>
      have hs : dots 3 (ax * bx) (ay * by_) (az * bz) = Fx.sat64 (dots 2 (ax * bx) (ay * by_) (az * bz) + az * bz) := by simp [dots, Fx.sums]
      have hbd := Fx.sums_bd ([ax * bx, ay * by_, az * bz].take 2)
      have hbd2 : -9223372036854775808 ≤ dots 2 (ax * bx) (ay * by_) (az * bz) ∧ dots 2 (ax * bx) (ay * by_) (az * bz) ≤ 9223372036854775807 := hbd
      clear hbd
      obtain ⟨s, hse⟩ : ∃ s, s = dots 2 (ax * bx) (ay * by_) (az * bz) := ⟨_, rfl⟩
      rw [← hse] at hs hbd2
      rw [← hse]
      have HS := Lib.hid hs
      clear hs hse
      rcases Fx.sat64_cases (s + az * bz) with ⟨h1, h2⟩ | ⟨h1, h2⟩ | ⟨h1, h1', h2⟩
      all_goals
        have H2 := Lib.hid h2
        clear h2
        go_wp2
        go_quiet (fail)
        go_wp2
        all_goals
          go_roundw
          case rel => exact ⟨3, by decide, by go_num, by rw [HS.out, H2.out], _, rfl⟩
          case measure => simp [intOf]
    | 3, _ =>
      go_wp2
      go_ret
      exact ⟨rfl, by repeat' (first | (with_reducible exact Below.refl _ _) | (with_reducible assumption) | (with_reducible refine Below.setCell ?_ ?_ _) | (with_reducible refine Below.alloc ?_ ?_ _) | (with_reducible refine Below.drew ?_) | (with_reducible refine Below.drawsN ?_ _) | go_size)⟩

end Go.Proofs.YtinaimacocgemaaDoor
