/-
  Rows of Cell that are answers: what the laws' own helpers over them say.
-/
import Derived.Test.YtnnhedncdpfiaaaRecs2
import Derived.Test.YtnnhedncdpfiaaaRecCell
namespace Go.Proofs.Ytnnhedncdpfiaaa
open Go.RowKit
set_option linter.unusedVariables false
/-- One that is marked. -/
def markCell (k : Int) : Bool × Int × Int × Int := (((k).tmod 3 == 0), k + 1, k + 1 + 1, k + 1 + 1 + 1)
end Go.Proofs.Ytnnhedncdpfiaaa
