/-
  What times of impl's fractions answers, divisors being looked for ahead of multiplying: written by gen/numtimes.py.
-/
import Derived.Test.YtkcnadlencajaaaDoorPkReadNumA
import Derived.Test.YtkcnadlencajaaaDoorPkFraction
import Derived.Test.YtkcnadlencajaaaDoorPkMinus
import Derived.Test.YtkcnadlencajaaaDoorPkMath
import Derived.Test.YtkcnadlencajaaaDoorTwoTwo
namespace Go.Proofs.YtkcnadlencajaaaDoor
open Go.RowKit
set_option linter.unusedVariables false

/-- What fraction answers. -/
def FracR (g : Bool) (n m : Nat) (v : Value) : Prop := ∃ (i l : Nat) (r s : List Int), v = .agg (numC g i r l s) ∧ Rep (n / Nat.gcd n m) i r ∧ Rep (m / Nat.gcd n m) l s

end Go.Proofs.YtkcnadlencajaaaDoor
