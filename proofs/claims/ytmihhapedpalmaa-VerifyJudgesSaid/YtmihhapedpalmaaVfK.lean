/- Verification: a nil table. -/
import Derived.Test.YtmihhapedpalmaaFlo
import Derived.Test.YtmihhapedpalmaaFloB
import Derived.LoopN
import Derived.Laws.IdiomRangeMap
namespace Go.Proofs.Ytmihhapedpalmaa
open Go.RowKit Go.Own
set_option linter.unusedVariables false
set_option linter.unusedSimpArgs false
set_option maxRecDepth 100000 in
set_option maxHeartbeats 1000000 in
theorem vKnown_nil (s : Nat) (w : World) : Calls Try.prog 39 #[.map none, .int .u8 (s : Nat)] w fun e w' => e = .returned (.bool false) ∧ Below w.heap.size w w' := by
  have h1 := fun w => run_range_nilMap (P := Try.prog) w 60 _ _ Try.underlying60
  have h2 := fun w ty a b s => run_next_nilMap (P := Try.prog) w ty a b s
  go_enter Try.func39, Try.ntmps39
  go_wp2_with fail
  refine wp_loop_rounds 1 ?_
  rw [rounds_succ]
  go_wp2
  go_ret
  exact ⟨rfl, by repeat' (first | (with_reducible exact Below.refl _ _) | (with_reducible assumption) | (with_reducible refine Below.setCell ?_ ?_ _) | (with_reducible refine Below.alloc ?_ ?_ _) | (with_reducible refine Below.drew ?_) | (with_reducible refine Below.drawsN ?_ _) | go_size)⟩
end Go.Proofs.Ytmihhapedpalmaa
