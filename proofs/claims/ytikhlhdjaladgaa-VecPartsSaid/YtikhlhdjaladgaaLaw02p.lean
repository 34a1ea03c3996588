/- VecProducts: the reference's answers. -/
import Derived.Test.YtikhlhdjaladgaaLaw02
import Derived.Handy
namespace Go.Proofs.Ytikhlhdjaladgaa
open Go.RowKit
set_option linter.unusedVariables false

/-- Six cells of a block. -/
structure Six (w : World) (b : Nat) (x0 x1 x2 y0 y1 y2 : Int) : Prop where
  c0 : w.cell? ⟨b, 0, none⟩ = some (.int .i32 x0)
  c1 : w.cell? ⟨b, 1, none⟩ = some (.int .i32 x1)
  c2 : w.cell? ⟨b, 2, none⟩ = some (.int .i32 x2)
  c3 : w.cell? ⟨b, 3, none⟩ = some (.int .i32 y0)
  c4 : w.cell? ⟨b, 4, none⟩ = some (.int .i32 y1)
  c5 : w.cell? ⟨b, 5, none⟩ = some (.int .i32 y2)

end Go.Proofs.Ytikhlhdjaladgaa
