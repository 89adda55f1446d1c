/-
  What spec.l1In answers.
-/
import Derived.Test.YtohgdmebddinhaaDoorRows
import Derived.WalkKit
import Derived.Below
namespace Go.Proofs.YtohgdmebddinhaaDoor
open Go.RowKit
set_option linter.unusedVariables false

end Go.Proofs.YtohgdmebddinhaaDoor
