/-
  The texts Fraction, IsOne, HeldMid, one behind the other.
-/
import Derived.Test.YtkmjpebfaodfaaaDoorWhole
import Derived.Test.YtkmjpebfaodfaaaDoorPkDivideA

/-
  What wholeOf and fraction of impl answer.
-/
namespace Go.Proofs.YtkmjpebfaodfaaaDoor
open Go.RowKit
set_option linter.unusedVariables false

end Go.Proofs.YtkmjpebfaodfaaaDoor

/-
  What isOne of impl's nats and isWhole of its fractions answer.
-/
namespace Go.Proofs.YtkmjpebfaodfaaaDoor
open Go.RowKit
set_option linter.unusedVariables false

end Go.Proofs.YtkmjpebfaodfaaaDoor

/-
  Drawn regions that read a nat or a whole number within a row.
-/
namespace Go.Proofs.YtkmjpebfaodfaaaDoor
open Go.RowKit
set_option linter.unusedVariables false

end Go.Proofs.YtkmjpebfaodfaaaDoor
