/-
  What impl.AddNat answers.
-/
import Derived.Test.YtmfpnbmfcoahbaaGreatDoorPkSpecAdd
import Derived.Test.YtmfpnbmfcoahbaaGreatDoorText
import Derived.Test.YtmfpnbmfcoahbaaGreatDoorPkHeld
namespace Go.Proofs.YtmfpnbmfcoahbaaGreatDoor
open Go.RowKit
set_option linter.unusedVariables false

theorem Rep.small {n k : Nat} {p : List Int} (h : Rep n k p) (hn : n < 10 ^ 600) : k ≤ 100 := h.fits.2 hn

end Go.Proofs.YtmfpnbmfcoahbaaGreatDoor
