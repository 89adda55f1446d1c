/-
  What impl.AddNat answers.
-/
import Derived.Test.YteihephciiifbaaDoorSpecAdd
import Derived.Test.YteihephciiifbaaDoorText
import Derived.Test.YteihephciiifbaaDoorReads
namespace Go.Proofs.YteihephciiifbaaDoor
open Go.RowKit
set_option linter.unusedVariables false

theorem Rep.small {n k : Nat} {p : List Int} (h : Rep n k p) (hn : n < 10 ^ 600) : k ≤ 100 := h.fits.2 hn

end Go.Proofs.YteihephciiifbaaDoor
