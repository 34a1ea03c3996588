/- Reports: ParseReport. -/
import Derived.Test.YtmihhapedpalmaaPs4
namespace Go.Proofs.Ytmihhapedpalmaa
open Go.RowKit Go.Own
set_option linter.unusedVariables false
set_option linter.unusedSimpArgs false

end Go.Proofs.Ytmihhapedpalmaa
