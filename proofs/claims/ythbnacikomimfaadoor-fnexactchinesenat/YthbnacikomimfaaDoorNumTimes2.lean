/-
  What times of impl's fractions answers, divisors being looked for ahead of multiplying: written by gen/numtimes.py.
-/
import Derived.Test.YthbnacikomimfaaDoorPkReadNumA
import Derived.Test.YthbnacikomimfaaDoorPkFraction
import Derived.Test.YthbnacikomimfaaDoorPkMinus
import Derived.Test.YthbnacikomimfaaDoorPkMath
import Derived.Test.YthbnacikomimfaaDoorTwoTwo
namespace Go.Proofs.YthbnacikomimfaaDoor
open Go.RowKit
set_option linter.unusedVariables false

/-- What fraction answers. -/
def FracR (g : Bool) (n m : Nat) (v : Value) : Prop := ∃ (i l : Nat) (r s : List Int), v = .agg (numC g i r l s) ∧ Rep (n / Nat.gcd n m) i r ∧ Rep (m / Nat.gcd n m) l s

end Go.Proofs.YthbnacikomimfaaDoor
