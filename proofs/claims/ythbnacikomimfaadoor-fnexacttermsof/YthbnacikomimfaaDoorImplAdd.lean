/-
  What impl.AddNat answers.
-/
import Derived.Test.YthbnacikomimfaaDoorPkSpecAdd
import Derived.Test.YthbnacikomimfaaDoorText
import Derived.Test.YthbnacikomimfaaDoorPkHeld
namespace Go.Proofs.YthbnacikomimfaaDoor
open Go.RowKit
set_option linter.unusedVariables false

theorem Rep.small {n k : Nat} {p : List Int} (h : Rep n k p) (hn : n < 10 ^ 600) : k ≤ 100 := h.fits.2 hn

end Go.Proofs.YthbnacikomimfaaDoor
