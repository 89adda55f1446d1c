/-
  What spec.l1In answers.
-/
import Derived.Test.YtnlegofckpbncaaDoorRows
import Derived.WalkKit
import Derived.Below
namespace Go.Proofs.YtnlegofckpbncaaDoor
open Go.RowKit
set_option linter.unusedVariables false

end Go.Proofs.YtnlegofckpbncaaDoor
