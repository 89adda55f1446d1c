/-
  Rows of Cell that are answers: what the laws' own helpers over them say.
-/
import Derived.Test.YtgolfbjfopoeeaaDoorRecs2
import Derived.Test.YtgolfbjfopoeeaaDoorRecCell
namespace Go.Proofs.YtgolfbjfopoeeaaDoor
open Go.RowKit
set_option linter.unusedVariables false
/-- One that is marked. -/
def markCell (k : Int) : Bool × Int × Int × Int := (((k).tmod 3 == 0), k + 1, k + 1 + 1, k + 1 + 1 + 1)
end Go.Proofs.YtgolfbjfopoeeaaDoor
