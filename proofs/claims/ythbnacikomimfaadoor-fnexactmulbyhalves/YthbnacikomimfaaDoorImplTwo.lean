/-
  What float and twoTo of impl answer, and its guess of an Exp.
-/
import Derived.Test.YthbnacikomimfaaDoorFrexp
import Derived.Test.YthbnacikomimfaaDoorTimesWide
import Derived.Test.YthbnacikomimfaaDoorPkHeld
import Derived.Test.YthbnacikomimfaaDoorRealMath
namespace Go.Proofs.YthbnacikomimfaaDoor
open Go.RowKit
set_option linter.unusedVariables false

/-! guessExp -/
end Go.Proofs.YthbnacikomimfaaDoor
