/- How many units a set of three has. -/
import Derived.Test.YtdlkonbjmmepoaaCel5
import Derived.Lib.Tables
namespace Go.Proofs.Ytdlkonbjmmepoaa
open Go.RowKit Go.Own
set_option linter.unusedVariables false
set_option linter.unusedSimpArgs false

theorem pop0 (w : World) : True := trivial
set_option maxRecDepth 100000 in
set_option maxHeartbeats 2000000 in
theorem Ones7 (w : World) : Calls Try.prog 81 #[.int .u16 7] w fun e w' => e = .returned (.int .i64 3) ∧ Below w.heap.size w w' := by
  have e1 : Lib.pop8 0 = 0 := by decide +kernel
  have e2 : Lib.pop8 7 = 3 := by decide +kernel
  have e3 : bits .and .u16 7 255 = 7 := by decide +kernel
  go_enter Try.func81, Try.ntmps81
  go_wp2
  simp only [List.append_eq, List.cons_append, List.nil_append, Lib.fold_pop8tab]
  go_quiet (fail)
  all_goals
    go_wp2
    go_ret
    exact ⟨rfl, below_drews _ _ _⟩
end Go.Proofs.Ytdlkonbjmmepoaa
