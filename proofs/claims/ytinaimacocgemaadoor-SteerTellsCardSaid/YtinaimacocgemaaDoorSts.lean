/- Layer 23: the document's torque to the sun. -/
import Derived.Test.YtinaimacocgemaaDoorStr
namespace Go.Proofs.YtinaimacocgemaaDoor
open Go.RowKit Go.Own
set_option linter.unusedVariables false
set_option linter.unusedSimpArgs false
theorem pw10 : Fx.pw 10 = 1024 := by decide
theorem cross_at0 (s : Nat → Int) : crossF (axv 0) s 10 0 = 0 ∧ crossF (axv 0) s 10 1 = Fx.sat (-1000 * s 2 / 1024) ∧ crossF (axv 0) s 10 2 = Fx.sat (1000 * s 1 / 1024) := by
  refine ⟨?_, ?_, ?_⟩
  · show Fx.sat ((0 * s 2 - 0 * s 1) / Fx.pw 10) = _; rw [pw10, Int.zero_mul, Int.zero_mul]; decide
  · show Fx.sat ((0 * s 0 - 1000 * s 2) / Fx.pw 10) = _; rw [pw10, show 0 * s 0 - 1000 * s 2 = -1000 * s 2 by omega]
  · show Fx.sat ((1000 * s 1 - 0 * s 0) / Fx.pw 10) = _; rw [pw10, show 1000 * s 1 - 0 * s 0 = 1000 * s 1 by omega]
theorem cross_at1 (s : Nat → Int) : crossF (axv 1) s 10 1 = 0 ∧ crossF (axv 1) s 10 2 = Fx.sat (-1000 * s 0 / 1024) ∧ crossF (axv 1) s 10 0 = Fx.sat (1000 * s 2 / 1024) := by
  refine ⟨?_, ?_, ?_⟩
  · show Fx.sat ((0 * s 0 - 0 * s 2) / Fx.pw 10) = _; rw [pw10, Int.zero_mul, Int.zero_mul]; decide
  · show Fx.sat ((0 * s 1 - 1000 * s 0) / Fx.pw 10) = _; rw [pw10, show 0 * s 1 - 1000 * s 0 = -1000 * s 0 by omega]
  · show Fx.sat ((1000 * s 2 - 0 * s 1) / Fx.pw 10) = _; rw [pw10, show 1000 * s 2 - 0 * s 1 = 1000 * s 2 by omega]
theorem cross_at2 (s : Nat → Int) : crossF (axv 2) s 10 2 = 0 ∧ crossF (axv 2) s 10 0 = Fx.sat (-1000 * s 1 / 1024) ∧ crossF (axv 2) s 10 1 = Fx.sat (1000 * s 0 / 1024) := by
  refine ⟨?_, ?_, ?_⟩
  · show Fx.sat ((0 * s 1 - 0 * s 0) / Fx.pw 10) = _; rw [pw10, Int.zero_mul, Int.zero_mul]; decide
  · show Fx.sat ((0 * s 2 - 1000 * s 1) / Fx.pw 10) = _; rw [pw10, show 0 * s 2 - 1000 * s 1 = -1000 * s 1 by omega]
  · show Fx.sat ((1000 * s 0 - 0 * s 2) / Fx.pw 10) = _; rw [pw10, show 1000 * s 0 - 0 * s 2 = 1000 * s 0 by omega]
theorem cross_none {i : Int} (h : i < 0 ∨ 3 ≤ i) (s : Nat → Int) (q : Int) (k : Nat) : crossF (axv i) s q k = 0 := by
  unfold crossF crs
  rw [axv_other h _ (Nat.mod_lt _ (by decide)), axv_other h _ (Nat.mod_lt _ (by decide)), Int.zero_mul, Int.zero_mul, Int.sub_self, Int.zero_ediv]
  decide
def sunT (T r : Nat → Int) (kp kd q m : Int) : Nat → Int := clampF (subF (scaleF T kp q) (scaleF r kd q)) m
end Go.Proofs.YtinaimacocgemaaDoor
