/-
  What impl.AddNat answers.
-/
import Derived.Test.YtohgdmebddinhaaDoorPkSpecAdd
import Derived.Test.YtohgdmebddinhaaDoorText
import Derived.Test.YtohgdmebddinhaaDoorPkHeld
namespace Go.Proofs.YtohgdmebddinhaaDoor
open Go.RowKit
set_option linter.unusedVariables false

theorem Rep.small {n k : Nat} {p : List Int} (h : Rep n k p) (hn : n < 10 ^ 600) : k ≤ 100 := h.fits.2 hn

end Go.Proofs.YtohgdmebddinhaaDoor
