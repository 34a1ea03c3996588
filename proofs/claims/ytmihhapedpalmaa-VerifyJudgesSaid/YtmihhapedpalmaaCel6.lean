/- Layer 6: which of two is newer; the example. -/
import Derived.Test.YtmihhapedpalmaaCel5
namespace Go.Proofs.Ytmihhapedpalmaa
open Go.RowKit Go.Own
set_option linter.unusedVariables false
set_option linter.unusedSimpArgs false

/-- Is the one newer than the other? -/
def newer (a b : List Nat) : Bool := decide (perr a = 0 ∧ (perr b ≠ 0 ∨ pseq b < pseq a))
end Go.Proofs.Ytmihhapedpalmaa
