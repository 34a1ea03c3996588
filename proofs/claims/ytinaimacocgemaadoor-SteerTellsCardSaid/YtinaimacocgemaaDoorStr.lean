/- Layer 23: the document's dipole. -/
import Derived.Test.YtinaimacocgemaaDoorSt
import Derived.Test.YtinaimacocgemaaDoorBx
namespace Go.Proofs.YtinaimacocgemaaDoor
open Go.RowKit Go.Own
set_option linter.unusedVariables false
set_option linter.unusedSimpArgs false
set_option maxHeartbeats 400000 in
theorem rclamp_any (n m : Int) (w : World) (hn : -2147483648 ≤ n) (hn' : n ≤ 2147483647) (hm : -2147483648 ≤ m) (hm' : m ≤ 2147483647) :
    Calls Tryd.prog 24 #[.int .i64 n, .int .i32 m] w fun e w' => e = .returned (.int .i32 (Fx.clamp n (-(max m 0)) (max m 0))) ∧ w = w' := by
  rcases (by omega : m < 0 ∨ 0 ≤ m) with h | h
  · rw [show max m 0 = 0 by omega]
    go_enter Tryd.func24, Tryd.ntmps24
    go_wp2
    all_goals
      go_ret
      exact ⟨ret_int (by unfold Fx.clamp; (try split) <;> (try split) <;> omega), rfl⟩
  · rw [show max m 0 = m by omega]
    go_enter Tryd.func24, Tryd.ntmps24
    go_wp2
    all_goals
      go_ret
      exact ⟨ret_int (by unfold Fx.clamp; (try split) <;> (try split) <;> omega), rfl⟩
end Go.Proofs.YtinaimacocgemaaDoor
