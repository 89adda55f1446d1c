/-
  Both GoodComb.
-/
import Derived.Test.YtbgjjidffckhcaaCbTreeTop
import Derived.Test.YtbgjjidffckhcaaCbSpecGoodT
namespace Go.Proofs.Ytbgjjidffckhcaa.CB
end Go.Proofs.Ytbgjjidffckhcaa.CB
