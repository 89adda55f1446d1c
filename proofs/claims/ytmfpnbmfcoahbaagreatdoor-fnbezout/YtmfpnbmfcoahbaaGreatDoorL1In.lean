/-
  What spec.l1In answers.
-/
import Derived.Test.YtmfpnbmfcoahbaaGreatDoorRows
import Derived.WalkKit
import Derived.Below
namespace Go.Proofs.YtmfpnbmfcoahbaaGreatDoor
open Go.RowKit
set_option linter.unusedVariables false

end Go.Proofs.YtmfpnbmfcoahbaaGreatDoor
