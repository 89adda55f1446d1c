/-
  What float and twoTo of impl answer, and its guess of an Exp.
-/
import Derived.Test.YteglkbgcgookhaaDoorFrexp
import Derived.Test.YteglkbgcgookhaaDoorTimesWide
import Derived.Test.YteglkbgcgookhaaDoorPkHeld
import Derived.Test.YteglkbgcgookhaaDoorRealMath
namespace Go.Proofs.YteglkbgcgookhaaDoor
open Go.RowKit
set_option linter.unusedVariables false

/-! guessExp -/
end Go.Proofs.YteglkbgcgookhaaDoor
