/-
  What float and twoTo of impl answer, and its guess of an Exp.
-/
import Derived.Test.YtfdlncaplalenaaDoorFrexp
import Derived.Test.YtfdlncaplalenaaDoorTimesWide
import Derived.Test.YtfdlncaplalenaaDoorPkHeld
import Derived.Test.YtfdlncaplalenaaDoorRealMath
namespace Go.Proofs.YtfdlncaplalenaaDoor
open Go.RowKit
set_option linter.unusedVariables false

/-! guessExp -/
end Go.Proofs.YtfdlncaplalenaaDoor
