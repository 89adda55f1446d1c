/-
  Both GoodComb.
-/
import Derived.Test.YtbkdlkpiaekblaaCbTreeTop
import Derived.Test.YtbkdlkpiaekblaaCbSpecGoodT
namespace Go.Proofs.Ytbkdlkpiaekblaa.CB
end Go.Proofs.Ytbkdlkpiaekblaa.CB
