/- Layer 2's statements: helpers; VecClamps. -/
import Derived.Test.YtinaimacocgemaaVec2
import Derived.Test.YtinaimacocgemaaMix
import Derived.OpenShut
namespace Go.Proofs.Ytinaimacocgemaa
open Go.RowKit
set_option linter.unusedVariables false

theorem ret_true {b : Bool} (h : b = true) : Ending.returned (.bool b) = .returned (.bool true) := by rw [h]

theorem Three.below {w w' : World} {k : IntKind} {b B : Nat} {x y z : Int} (h : Three w k b x y z) (hb : Below B w w') (hlt : b < B) : Three w' k b x y z :=
  ⟨(hb.cell (p := ⟨b, 0, none⟩) hlt).trans h.c0, (hb.cell (p := ⟨b, 1, none⟩) hlt).trans h.c1, (hb.cell (p := ⟨b, 2, none⟩) hlt).trans h.c2⟩

theorem Three.drew {w : World} {k : IntKind} {b : Nat} {x y z : Int} (h : Three w k b x y z) : Three w.drew k b x y z := ⟨h.c0, h.c1, h.c2⟩

@[go_sem] theorem idx0 (w : World) (x y z : Int) : (Instr.index 23 (.agg #[.int .i32 x, .int .i32 y, .int .i32 z]) (.int .i64 0)).run Try.prog w = .ok (.int .i32 x) w := by kernel_rfl
@[go_sem] theorem idx1 (w : World) (x y z : Int) : (Instr.index 23 (.agg #[.int .i32 x, .int .i32 y, .int .i32 z]) (.int .i64 1)).run Try.prog w = .ok (.int .i32 y) w := by kernel_rfl
@[go_sem] theorem idx2 (w : World) (x y z : Int) : (Instr.index 23 (.agg #[.int .i32 x, .int .i32 y, .int .i32 z]) (.int .i64 2)).run Try.prog w = .ok (.int .i32 z) w := by kernel_rfl

set_option maxHeartbeats 400000 in
theorem awake02 (w : World) : Calls Try.prog 12 #[] w fun e w' => e = .returned (.bool true) ∧ Below w.heap.size w w' := by
  have c1 : crs (0 * 0 - 0 * 1) 0 = 0 := by decide
  have c2 : crs (0 * 0 - 1 * 0) 0 = 0 := by decide
  have c3 : crs (1 * 1 - 0 * 0) 0 = 1 := by decide
  have s1 : Fx.root (Fx.sums [3 * 3, 4 * 4, 0 * 0]) = 5 := by decide +kernel
  have S1 := Lib.hid s1
  have C1 := Lib.hid c1
  have C2 := Lib.hid c2
  have C3 := Lib.hid c3
  clear s1 c1 c2 c3
  go_enter Try.func12, Try.ntmps12
  go_wp2_with (first | (go_at_call 18; refine (vCross_any 1 0 0 0 1 0 0 _ (by decide) (by decide) (by decide) (by decide) (by decide) (by decide) (by decide) (by decide) (by decide) (by decide) (by decide) (by decide)).mono ?_; rintro e w1 ⟨rfl, hb1⟩; rw [C1.out, C2.out, C3.out]) | (go_at_call 63; refine (vSize_any 3 4 0 _ (by decide) (by decide) (by decide) (by decide) (by decide) (by decide)).mono ?_; rintro e w2 ⟨rfl, hb2⟩; rw [S1.out]))
  go_ret
  exact ⟨rfl, hb1.trans (hb2.mono hb1.size)⟩


/-- the sum of the first k products -/
def dots (k : Nat) (x y z : Int) : Int := Fx.sums ([x, y, z].take k)

end Go.Proofs.Ytinaimacocgemaa
