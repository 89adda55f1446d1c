/-
  What impl.AddNat answers.
-/
import Derived.Test.YtkcnadlencajaaaDoorPkSpecAdd
import Derived.Test.YtkcnadlencajaaaDoorText
import Derived.Test.YtkcnadlencajaaaDoorPkHeld
namespace Go.Proofs.YtkcnadlencajaaaDoor
open Go.RowKit
set_option linter.unusedVariables false

theorem Rep.small {n k : Nat} {p : List Int} (h : Rep n k p) (hn : n < 10 ^ 600) : k ≤ 100 := h.fits.2 hn

end Go.Proofs.YtkcnadlencajaaaDoor
