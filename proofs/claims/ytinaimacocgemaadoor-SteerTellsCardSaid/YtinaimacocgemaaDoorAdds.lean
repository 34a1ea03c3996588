/- fixq.Add of two and of three numbers in memory. -/
import Derived.Test.YtinaimacocgemaaDoorFix
namespace Go.Proofs.YtinaimacocgemaaDoor
open Go.RowKit
set_option linter.unusedVariables false

theorem Add3_at (x y z : Int) (n : Nat) (w : World) (h0 : w.cell? ⟨n, 0, none⟩ = some (.int .i32 x)) (h1 : w.cell? ⟨n, 1, none⟩ = some (.int .i32 y)) (h2 : w.cell? ⟨n, 2, none⟩ = some (.int .i32 z)) (hx : -2147483648 ≤ x ∧ x ≤ 2147483647) (hy : -2147483648 ≤ y ∧ y ≤ 2147483647) (hz : -2147483648 ≤ z ∧ z ≤ 2147483647) :
    Calls Tryd.prog 42 #[.slice (some ⟨n, 0, none⟩) 3 3] w fun e w' => e = .returned (.int .i32 (Fx.sat (x + y + z))) ∧ w = w' := by
  refine (Add_any n 0 3 3 [x, y, z] _ rfl (by decide) ?_ ?_).mono ?_
  · intro v hv; simp at hv; omega
  · intro j hj
    have hj : j < 3 := hj
    have : j = 0 ∨ j = 1 ∨ j = 2 := by omega
    rcases this with rfl | rfl | rfl <;> assumption
  · rintro e w' ⟨rfl, rfl⟩
    exact ⟨ret_int (by simp [Fx.sum]), rfl⟩
theorem Add2_at (x y : Int) (n : Nat) (w : World) (h0 : w.cell? ⟨n, 0, none⟩ = some (.int .i32 x)) (h1 : w.cell? ⟨n, 1, none⟩ = some (.int .i32 y)) (hx : -2147483648 ≤ x ∧ x ≤ 2147483647) (hy : -2147483648 ≤ y ∧ y ≤ 2147483647) :
    Calls Tryd.prog 42 #[.slice (some ⟨n, 0, none⟩) 2 2] w fun e w' => e = .returned (.int .i32 (Fx.sat (x + y))) ∧ w = w' := by
  refine (Add_any n 0 2 2 [x, y] _ rfl (by decide) ?_ ?_).mono ?_
  · intro v hv; simp at hv; omega
  · intro j hj
    have hj : j < 2 := hj
    have : j = 0 ∨ j = 1 := by omega
    rcases this with rfl | rfl <;> assumption
  · rintro e w' ⟨rfl, rfl⟩
    exact ⟨ret_int (by simp [Fx.sum]), rfl⟩

end Go.Proofs.YtinaimacocgemaaDoor
