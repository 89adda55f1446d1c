/-
  Rows of Int that are answers: what the laws' own helpers over them say.
-/
import Derived.Test.YtgolfbjfopoeeaaDoorRecs2
import Derived.Test.YtgolfbjfopoeeaaDoorRecInt
namespace Go.Proofs.YtgolfbjfopoeeaaDoor
open Go.RowKit
set_option linter.unusedVariables false
/-- One that is marked. -/
def markInt (k : Int) : Int := k
end Go.Proofs.YtgolfbjfopoeeaaDoor
