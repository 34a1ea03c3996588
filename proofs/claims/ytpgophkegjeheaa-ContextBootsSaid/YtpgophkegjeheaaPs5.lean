/- Reports: ParseReport. -/
import Derived.Test.YtpgophkegjeheaaPs4
namespace Go.Proofs.Ytpgophkegjeheaa
open Go.RowKit Go.Own
set_option linter.unusedVariables false
set_option linter.unusedSimpArgs false

end Go.Proofs.Ytpgophkegjeheaa
