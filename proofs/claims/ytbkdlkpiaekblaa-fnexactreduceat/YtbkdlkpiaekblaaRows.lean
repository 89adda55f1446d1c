/-
  No cell of these rows narrows 'for every input' (looked for: loops, veiled, ifaces, maps, wideKeys, modest, calm, conditions, laid).
  DERIVED. THE GIVEN ROWS OF THIS SEAT. 12 by the template 'for every input the law returns true; each argument reads behind the call as it read before'; 0 by the template 'total and deterministic' (their statements: YtbkdlkpiaekblaaTotals.lean).
  GIVEN WITH THE SEED: the statements are not yours to turn. If you find one false, say at which input.
  Laid BY PROGRAM, IN A SANDBOX (cutbox-rows.mjs): the forced cells as the released guide's own fill.sh prints them over the translation fdbb818579ac6bab… (all of the seat's roots in one cut). By AI agents, Wed Nov 11 2026. No macro, syntax, notation, axiom, sorry.
-/
import Derived.Test.YtbkdlkpiaekblaaChecked
import GoSem.Claim
import GoSem.ClaimJoined
import GoSem.ClaimMapViews
import Derived.JoinedTies
import Derived.KernelRfl
namespace Go.Proofs.Ytbkdlkpiaekblaa
/- THE CELL 'sum', in the pinned program and in every row, IS THE sha256 OF THE DUMP (.gsa) THAT YtbkdlkpiaekblaaProg.lean LOADS. Nothing in Lean hashes anything: it is a label: what it is worth is what the hold of that sum in a sandbox is worth. -/
noncomputable def Try.pinned : Pinned := { name := "ytbkdlkpiaekblaa", sum := "fdbb818579ac6baba8235cc658293a59bfc01ec80899995305658290bfd2ae7e", checked := Try.checked }
namespace Rows
def none {H : Type} : Left H := { results := [], args := [] }

/-- 'laws.FnExactFreeIn': WHATEVER THE INPUT: true; the input reads as it did. -/
def fnExactFreeInSpec : ChangeSpec := { name := "fnExactFreeIn", fn := fun _ => fun
  | [d] => { results := [.lit (.bool true)], args := [d] }
  | _ => none }
def fnExactFreeInRow : OpenClaim := { program := "ytbkdlkpiaekblaa", sum := "fdbb818579ac6baba8235cc658293a59bfc01ec80899995305658290bfd2ae7e", func := "loop.example/g00201/laws.FnExactFreeIn", spec := "fnExactFreeIn", unfollowed := true, recurses := true, apart := false }
def FnExactFreeInSaid : Prop := fnExactFreeInRow.holds Try.pinned (OpenSpec.ofChange fnExactFreeInSpec)

/-- ITS FALSE NEIGHBOUR: 'it returns false'. Refute it at one input. -/
def fnExactFreeInWrong : ChangeSpec := { name := "fnExactFreeIn", fn := fun _ => fun
  | [d] => { results := [.lit (.bool false)], args := [d] }
  | _ => none }
def FnExactFreeInWrongFalsely : Prop := fnExactFreeInRow.holds Try.pinned (OpenSpec.ofChange fnExactFreeInWrong)

/-- 'laws.FnExactShiftTerm': WHATEVER THE INPUT: true; the input reads as it did. -/
def fnExactShiftTermSpec : ChangeSpec := { name := "fnExactShiftTerm", fn := fun _ => fun
  | [d1, d2, d3] => { results := [.lit (.bool true)], args := [d1, d2, d3] }
  | _ => none }
def fnExactShiftTermRow : OpenClaim := { program := "ytbkdlkpiaekblaa", sum := "fdbb818579ac6baba8235cc658293a59bfc01ec80899995305658290bfd2ae7e", func := "loop.example/g00201/laws.FnExactShiftTerm", spec := "fnExactShiftTerm", unfollowed := true, recurses := true, apart := false }
def FnExactShiftTermSaid : Prop := fnExactShiftTermRow.holds Try.pinned (OpenSpec.ofChange fnExactShiftTermSpec)

/-- ITS FALSE NEIGHBOUR: 'it returns false'. Refute it at one input. -/
def fnExactShiftTermWrong : ChangeSpec := { name := "fnExactShiftTerm", fn := fun _ => fun
  | [d1, d2, d3] => { results := [.lit (.bool false)], args := [d1, d2, d3] }
  | _ => none }
def FnExactShiftTermWrongFalsely : Prop := fnExactShiftTermRow.holds Try.pinned (OpenSpec.ofChange fnExactShiftTermWrong)

/-- 'laws.FnExactSubstTerm': WHATEVER THE INPUT: true; the input reads as it did. -/
def fnExactSubstTermSpec : ChangeSpec := { name := "fnExactSubstTerm", fn := fun _ => fun
  | [d1, d2, d3] => { results := [.lit (.bool true)], args := [d1, d2, d3] }
  | _ => none }
def fnExactSubstTermRow : OpenClaim := { program := "ytbkdlkpiaekblaa", sum := "fdbb818579ac6baba8235cc658293a59bfc01ec80899995305658290bfd2ae7e", func := "loop.example/g00201/laws.FnExactSubstTerm", spec := "fnExactSubstTerm", unfollowed := true, recurses := true, apart := false }
def FnExactSubstTermSaid : Prop := fnExactSubstTermRow.holds Try.pinned (OpenSpec.ofChange fnExactSubstTermSpec)

/-- ITS FALSE NEIGHBOUR: 'it returns false'. Refute it at one input. -/
def fnExactSubstTermWrong : ChangeSpec := { name := "fnExactSubstTerm", fn := fun _ => fun
  | [d1, d2, d3] => { results := [.lit (.bool false)], args := [d1, d2, d3] }
  | _ => none }
def FnExactSubstTermWrongFalsely : Prop := fnExactSubstTermRow.holds Try.pinned (OpenSpec.ofChange fnExactSubstTermWrong)

/-- 'laws.FnExactReduceAt': WHATEVER THE INPUT: true; the input reads as it did. -/
def fnExactReduceAtSpec : ChangeSpec := { name := "fnExactReduceAt", fn := fun _ => fun
  | [d1, d2] => { results := [.lit (.bool true)], args := [d1, d2] }
  | _ => none }
def fnExactReduceAtRow : OpenClaim := { program := "ytbkdlkpiaekblaa", sum := "fdbb818579ac6baba8235cc658293a59bfc01ec80899995305658290bfd2ae7e", func := "loop.example/g00201/laws.FnExactReduceAt", spec := "fnExactReduceAt", unfollowed := true, recurses := true, apart := false }
def FnExactReduceAtSaid : Prop := fnExactReduceAtRow.holds Try.pinned (OpenSpec.ofChange fnExactReduceAtSpec)

/-- ITS FALSE NEIGHBOUR: 'it returns false'. Refute it at one input. -/
def fnExactReduceAtWrong : ChangeSpec := { name := "fnExactReduceAt", fn := fun _ => fun
  | [d1, d2] => { results := [.lit (.bool false)], args := [d1, d2] }
  | _ => none }
def FnExactReduceAtWrongFalsely : Prop := fnExactReduceAtRow.holds Try.pinned (OpenSpec.ofChange fnExactReduceAtWrong)

/-- 'laws.FnExactDevelopTerm': WHATEVER THE INPUT: true; the input reads as it did. -/
def fnExactDevelopTermSpec : ChangeSpec := { name := "fnExactDevelopTerm", fn := fun _ => fun
  | [d] => { results := [.lit (.bool true)], args := [d] }
  | _ => none }
def fnExactDevelopTermRow : OpenClaim := { program := "ytbkdlkpiaekblaa", sum := "fdbb818579ac6baba8235cc658293a59bfc01ec80899995305658290bfd2ae7e", func := "loop.example/g00201/laws.FnExactDevelopTerm", spec := "fnExactDevelopTerm", unfollowed := true, recurses := true, apart := false }
def FnExactDevelopTermSaid : Prop := fnExactDevelopTermRow.holds Try.pinned (OpenSpec.ofChange fnExactDevelopTermSpec)

/-- ITS FALSE NEIGHBOUR: 'it returns false'. Refute it at one input. -/
def fnExactDevelopTermWrong : ChangeSpec := { name := "fnExactDevelopTerm", fn := fun _ => fun
  | [d] => { results := [.lit (.bool false)], args := [d] }
  | _ => none }
def FnExactDevelopTermWrongFalsely : Prop := fnExactDevelopTermRow.holds Try.pinned (OpenSpec.ofChange fnExactDevelopTermWrong)

/-- 'laws.FnExactNormalTerm': WHATEVER THE INPUT: true; the input reads as it did. -/
def fnExactNormalTermSpec : ChangeSpec := { name := "fnExactNormalTerm", fn := fun _ => fun
  | [d1, d2] => { results := [.lit (.bool true)], args := [d1, d2] }
  | _ => none }
def fnExactNormalTermRow : OpenClaim := { program := "ytbkdlkpiaekblaa", sum := "fdbb818579ac6baba8235cc658293a59bfc01ec80899995305658290bfd2ae7e", func := "loop.example/g00201/laws.FnExactNormalTerm", spec := "fnExactNormalTerm", unfollowed := true, recurses := true, apart := false }
def FnExactNormalTermSaid : Prop := fnExactNormalTermRow.holds Try.pinned (OpenSpec.ofChange fnExactNormalTermSpec)

/-- ITS FALSE NEIGHBOUR: 'it returns false'. Refute it at one input. -/
def fnExactNormalTermWrong : ChangeSpec := { name := "fnExactNormalTerm", fn := fun _ => fun
  | [d1, d2] => { results := [.lit (.bool false)], args := [d1, d2] }
  | _ => none }
def FnExactNormalTermWrongFalsely : Prop := fnExactNormalTermRow.holds Try.pinned (OpenSpec.ofChange fnExactNormalTermWrong)

/-- 'laws.FnExactGoodComb': WHATEVER THE INPUT: true; the input reads as it did. -/
def fnExactGoodCombSpec : ChangeSpec := { name := "fnExactGoodComb", fn := fun _ => fun
  | [d] => { results := [.lit (.bool true)], args := [d] }
  | _ => none }
def fnExactGoodCombRow : OpenClaim := { program := "ytbkdlkpiaekblaa", sum := "fdbb818579ac6baba8235cc658293a59bfc01ec80899995305658290bfd2ae7e", func := "loop.example/g00201/laws.FnExactGoodComb", spec := "fnExactGoodComb", unfollowed := true, recurses := true, apart := false }
def FnExactGoodCombSaid : Prop := fnExactGoodCombRow.holds Try.pinned (OpenSpec.ofChange fnExactGoodCombSpec)

/-- ITS FALSE NEIGHBOUR: 'it returns false'. Refute it at one input. -/
def fnExactGoodCombWrong : ChangeSpec := { name := "fnExactGoodComb", fn := fun _ => fun
  | [d] => { results := [.lit (.bool false)], args := [d] }
  | _ => none }
def FnExactGoodCombWrongFalsely : Prop := fnExactGoodCombRow.holds Try.pinned (OpenSpec.ofChange fnExactGoodCombWrong)

/-- 'laws.FnExactAbstractComb': WHATEVER THE INPUT: true; the input reads as it did. -/
def fnExactAbstractCombSpec : ChangeSpec := { name := "fnExactAbstractComb", fn := fun _ => fun
  | [d1, d2] => { results := [.lit (.bool true)], args := [d1, d2] }
  | _ => none }
def fnExactAbstractCombRow : OpenClaim := { program := "ytbkdlkpiaekblaa", sum := "fdbb818579ac6baba8235cc658293a59bfc01ec80899995305658290bfd2ae7e", func := "loop.example/g00201/laws.FnExactAbstractComb", spec := "fnExactAbstractComb", unfollowed := true, recurses := true, apart := false }
def FnExactAbstractCombSaid : Prop := fnExactAbstractCombRow.holds Try.pinned (OpenSpec.ofChange fnExactAbstractCombSpec)

/-- ITS FALSE NEIGHBOUR: 'it returns false'. Refute it at one input. -/
def fnExactAbstractCombWrong : ChangeSpec := { name := "fnExactAbstractComb", fn := fun _ => fun
  | [d1, d2] => { results := [.lit (.bool false)], args := [d1, d2] }
  | _ => none }
def FnExactAbstractCombWrongFalsely : Prop := fnExactAbstractCombRow.holds Try.pinned (OpenSpec.ofChange fnExactAbstractCombWrong)

/-- 'laws.FnExactPutComb': WHATEVER THE INPUT: true; the input reads as it did. -/
def fnExactPutCombSpec : ChangeSpec := { name := "fnExactPutComb", fn := fun _ => fun
  | [d1, d2, d3] => { results := [.lit (.bool true)], args := [d1, d2, d3] }
  | _ => none }
def fnExactPutCombRow : OpenClaim := { program := "ytbkdlkpiaekblaa", sum := "fdbb818579ac6baba8235cc658293a59bfc01ec80899995305658290bfd2ae7e", func := "loop.example/g00201/laws.FnExactPutComb", spec := "fnExactPutComb", unfollowed := true, recurses := true, apart := false }
def FnExactPutCombSaid : Prop := fnExactPutCombRow.holds Try.pinned (OpenSpec.ofChange fnExactPutCombSpec)

/-- ITS FALSE NEIGHBOUR: 'it returns false'. Refute it at one input. -/
def fnExactPutCombWrong : ChangeSpec := { name := "fnExactPutComb", fn := fun _ => fun
  | [d1, d2, d3] => { results := [.lit (.bool false)], args := [d1, d2, d3] }
  | _ => none }
def FnExactPutCombWrongFalsely : Prop := fnExactPutCombRow.holds Try.pinned (OpenSpec.ofChange fnExactPutCombWrong)

/-- 'laws.FnExactStepComb': WHATEVER THE INPUT: true; the input reads as it did. -/
def fnExactStepCombSpec : ChangeSpec := { name := "fnExactStepComb", fn := fun _ => fun
  | [d] => { results := [.lit (.bool true)], args := [d] }
  | _ => none }
def fnExactStepCombRow : OpenClaim := { program := "ytbkdlkpiaekblaa", sum := "fdbb818579ac6baba8235cc658293a59bfc01ec80899995305658290bfd2ae7e", func := "loop.example/g00201/laws.FnExactStepComb", spec := "fnExactStepComb", unfollowed := true, recurses := true, apart := false }
def FnExactStepCombSaid : Prop := fnExactStepCombRow.holds Try.pinned (OpenSpec.ofChange fnExactStepCombSpec)

/-- ITS FALSE NEIGHBOUR: 'it returns false'. Refute it at one input. -/
def fnExactStepCombWrong : ChangeSpec := { name := "fnExactStepComb", fn := fun _ => fun
  | [d] => { results := [.lit (.bool false)], args := [d] }
  | _ => none }
def FnExactStepCombWrongFalsely : Prop := fnExactStepCombRow.holds Try.pinned (OpenSpec.ofChange fnExactStepCombWrong)

/-- 'laws.FnExactNormalComb': WHATEVER THE INPUT: true; the input reads as it did. -/
def fnExactNormalCombSpec : ChangeSpec := { name := "fnExactNormalComb", fn := fun _ => fun
  | [d1, d2] => { results := [.lit (.bool true)], args := [d1, d2] }
  | _ => none }
def fnExactNormalCombRow : OpenClaim := { program := "ytbkdlkpiaekblaa", sum := "fdbb818579ac6baba8235cc658293a59bfc01ec80899995305658290bfd2ae7e", func := "loop.example/g00201/laws.FnExactNormalComb", spec := "fnExactNormalComb", unfollowed := true, recurses := true, apart := false }
def FnExactNormalCombSaid : Prop := fnExactNormalCombRow.holds Try.pinned (OpenSpec.ofChange fnExactNormalCombSpec)

/-- ITS FALSE NEIGHBOUR: 'it returns false'. Refute it at one input. -/
def fnExactNormalCombWrong : ChangeSpec := { name := "fnExactNormalComb", fn := fun _ => fun
  | [d1, d2] => { results := [.lit (.bool false)], args := [d1, d2] }
  | _ => none }
def FnExactNormalCombWrongFalsely : Prop := fnExactNormalCombRow.holds Try.pinned (OpenSpec.ofChange fnExactNormalCombWrong)

/-- 'laws.FnExactCombOfTerm': WHATEVER THE INPUT: true; the input reads as it did. -/
def fnExactCombOfTermSpec : ChangeSpec := { name := "fnExactCombOfTerm", fn := fun _ => fun
  | [d] => { results := [.lit (.bool true)], args := [d] }
  | _ => none }
def fnExactCombOfTermRow : OpenClaim := { program := "ytbkdlkpiaekblaa", sum := "fdbb818579ac6baba8235cc658293a59bfc01ec80899995305658290bfd2ae7e", func := "loop.example/g00201/laws.FnExactCombOfTerm", spec := "fnExactCombOfTerm", unfollowed := true, recurses := true, apart := false }
def FnExactCombOfTermSaid : Prop := fnExactCombOfTermRow.holds Try.pinned (OpenSpec.ofChange fnExactCombOfTermSpec)

/-- ITS FALSE NEIGHBOUR: 'it returns false'. Refute it at one input. -/
def fnExactCombOfTermWrong : ChangeSpec := { name := "fnExactCombOfTerm", fn := fun _ => fun
  | [d] => { results := [.lit (.bool false)], args := [d] }
  | _ => none }
def FnExactCombOfTermWrongFalsely : Prop := fnExactCombOfTermRow.holds Try.pinned (OpenSpec.ofChange fnExactCombOfTermWrong)

/- THE SECOND FORM. 'bulk': how many values and letters a reading holds, each counted each time it is reached (what is shared counts as often as it is met; a slice's spare places count too). A statement '..UptoSaid' is the law's where the arguments, and the package variables that the reading takes, are together of bulk at most 1048576: NARROWER than '..Said'. Prove '..Said' where nothing that the law and all that it calls make is longer than what came in: it says more and counts as full. Else prove '..UptoSaid'. A law counts once. -/
mutual
def uptoBulk {H : Type} : DataW H → Nat
  | .lit (.string bytes) => bytes.length + 1
  | .lit _ => 1
  | .nil => 1
  | .ptr d => uptoBulk d + 1
  | .slice elems spare => uptoBulkAll elems + uptoBulkAll spare + 1
  | .agg parts => uptoBulkAll parts + 1
  | .iface _ d => uptoBulk d + 1
  | .map entries => uptoBulkEntries entries + 1
  | .held _ => 1
def uptoBulkAll {H : Type} : List (DataW H) → Nat
  | [] => 0
  | d :: r => uptoBulk d + uptoBulkAll r
def uptoBulkEntries {H : Type} : List (Lit × DataW H) → Nat
  | [] => 0
  | x :: r => uptoBulkEntry x + uptoBulkEntries r
def uptoBulkEntry {H : Type} : Lit × DataW H → Nat
  | (.string bytes, d) => bytes.length + uptoBulk d + 1
  | (_, d) => uptoBulk d + 1
 end
def uptoSmall : (H : Type) → List (DataW H) → Bool := fun _ ds => decide (uptoBulkAll ds ≤ 1048576)
def OpenSpec.upto (s : _root_.Go.ChangeSpec) : _root_.Go.OpenSpec := { _root_.Go.OpenSpec.ofChange s with cond := some uptoSmall }

/-- 'laws.FnExactFreeIn', WHERE WHAT IT READS IS OF BULK AT MOST 1048576: true; the input reads as it did. -/
def fnExactFreeInUptoRow : OpenClaim := { program := "ytbkdlkpiaekblaa", sum := "fdbb818579ac6baba8235cc658293a59bfc01ec80899995305658290bfd2ae7e", func := "loop.example/g00201/laws.FnExactFreeIn", spec := "fnExactFreeIn", unfollowed := true, recurses := true, apart := false, narrowed := true }
def FnExactFreeInUptoSaid : Prop := fnExactFreeInUptoRow.holds Try.pinned (OpenSpec.upto fnExactFreeInSpec)

/-- 'laws.FnExactShiftTerm', WHERE WHAT IT READS IS OF BULK AT MOST 1048576: true; the input reads as it did. -/
def fnExactShiftTermUptoRow : OpenClaim := { program := "ytbkdlkpiaekblaa", sum := "fdbb818579ac6baba8235cc658293a59bfc01ec80899995305658290bfd2ae7e", func := "loop.example/g00201/laws.FnExactShiftTerm", spec := "fnExactShiftTerm", unfollowed := true, recurses := true, apart := false, narrowed := true }
def FnExactShiftTermUptoSaid : Prop := fnExactShiftTermUptoRow.holds Try.pinned (OpenSpec.upto fnExactShiftTermSpec)

/-- 'laws.FnExactSubstTerm', WHERE WHAT IT READS IS OF BULK AT MOST 1048576: true; the input reads as it did. -/
def fnExactSubstTermUptoRow : OpenClaim := { program := "ytbkdlkpiaekblaa", sum := "fdbb818579ac6baba8235cc658293a59bfc01ec80899995305658290bfd2ae7e", func := "loop.example/g00201/laws.FnExactSubstTerm", spec := "fnExactSubstTerm", unfollowed := true, recurses := true, apart := false, narrowed := true }
def FnExactSubstTermUptoSaid : Prop := fnExactSubstTermUptoRow.holds Try.pinned (OpenSpec.upto fnExactSubstTermSpec)

/-- 'laws.FnExactReduceAt', WHERE WHAT IT READS IS OF BULK AT MOST 1048576: true; the input reads as it did. -/
def fnExactReduceAtUptoRow : OpenClaim := { program := "ytbkdlkpiaekblaa", sum := "fdbb818579ac6baba8235cc658293a59bfc01ec80899995305658290bfd2ae7e", func := "loop.example/g00201/laws.FnExactReduceAt", spec := "fnExactReduceAt", unfollowed := true, recurses := true, apart := false, narrowed := true }
def FnExactReduceAtUptoSaid : Prop := fnExactReduceAtUptoRow.holds Try.pinned (OpenSpec.upto fnExactReduceAtSpec)

/-- 'laws.FnExactDevelopTerm', WHERE WHAT IT READS IS OF BULK AT MOST 1048576: true; the input reads as it did. -/
def fnExactDevelopTermUptoRow : OpenClaim := { program := "ytbkdlkpiaekblaa", sum := "fdbb818579ac6baba8235cc658293a59bfc01ec80899995305658290bfd2ae7e", func := "loop.example/g00201/laws.FnExactDevelopTerm", spec := "fnExactDevelopTerm", unfollowed := true, recurses := true, apart := false, narrowed := true }
def FnExactDevelopTermUptoSaid : Prop := fnExactDevelopTermUptoRow.holds Try.pinned (OpenSpec.upto fnExactDevelopTermSpec)

/-- 'laws.FnExactNormalTerm', WHERE WHAT IT READS IS OF BULK AT MOST 1048576: true; the input reads as it did. -/
def fnExactNormalTermUptoRow : OpenClaim := { program := "ytbkdlkpiaekblaa", sum := "fdbb818579ac6baba8235cc658293a59bfc01ec80899995305658290bfd2ae7e", func := "loop.example/g00201/laws.FnExactNormalTerm", spec := "fnExactNormalTerm", unfollowed := true, recurses := true, apart := false, narrowed := true }
def FnExactNormalTermUptoSaid : Prop := fnExactNormalTermUptoRow.holds Try.pinned (OpenSpec.upto fnExactNormalTermSpec)

/-- 'laws.FnExactGoodComb', WHERE WHAT IT READS IS OF BULK AT MOST 1048576: true; the input reads as it did. -/
def fnExactGoodCombUptoRow : OpenClaim := { program := "ytbkdlkpiaekblaa", sum := "fdbb818579ac6baba8235cc658293a59bfc01ec80899995305658290bfd2ae7e", func := "loop.example/g00201/laws.FnExactGoodComb", spec := "fnExactGoodComb", unfollowed := true, recurses := true, apart := false, narrowed := true }
def FnExactGoodCombUptoSaid : Prop := fnExactGoodCombUptoRow.holds Try.pinned (OpenSpec.upto fnExactGoodCombSpec)

/-- 'laws.FnExactAbstractComb', WHERE WHAT IT READS IS OF BULK AT MOST 1048576: true; the input reads as it did. -/
def fnExactAbstractCombUptoRow : OpenClaim := { program := "ytbkdlkpiaekblaa", sum := "fdbb818579ac6baba8235cc658293a59bfc01ec80899995305658290bfd2ae7e", func := "loop.example/g00201/laws.FnExactAbstractComb", spec := "fnExactAbstractComb", unfollowed := true, recurses := true, apart := false, narrowed := true }
def FnExactAbstractCombUptoSaid : Prop := fnExactAbstractCombUptoRow.holds Try.pinned (OpenSpec.upto fnExactAbstractCombSpec)

/-- 'laws.FnExactPutComb', WHERE WHAT IT READS IS OF BULK AT MOST 1048576: true; the input reads as it did. -/
def fnExactPutCombUptoRow : OpenClaim := { program := "ytbkdlkpiaekblaa", sum := "fdbb818579ac6baba8235cc658293a59bfc01ec80899995305658290bfd2ae7e", func := "loop.example/g00201/laws.FnExactPutComb", spec := "fnExactPutComb", unfollowed := true, recurses := true, apart := false, narrowed := true }
def FnExactPutCombUptoSaid : Prop := fnExactPutCombUptoRow.holds Try.pinned (OpenSpec.upto fnExactPutCombSpec)

/-- 'laws.FnExactStepComb', WHERE WHAT IT READS IS OF BULK AT MOST 1048576: true; the input reads as it did. -/
def fnExactStepCombUptoRow : OpenClaim := { program := "ytbkdlkpiaekblaa", sum := "fdbb818579ac6baba8235cc658293a59bfc01ec80899995305658290bfd2ae7e", func := "loop.example/g00201/laws.FnExactStepComb", spec := "fnExactStepComb", unfollowed := true, recurses := true, apart := false, narrowed := true }
def FnExactStepCombUptoSaid : Prop := fnExactStepCombUptoRow.holds Try.pinned (OpenSpec.upto fnExactStepCombSpec)

/-- 'laws.FnExactNormalComb', WHERE WHAT IT READS IS OF BULK AT MOST 1048576: true; the input reads as it did. -/
def fnExactNormalCombUptoRow : OpenClaim := { program := "ytbkdlkpiaekblaa", sum := "fdbb818579ac6baba8235cc658293a59bfc01ec80899995305658290bfd2ae7e", func := "loop.example/g00201/laws.FnExactNormalComb", spec := "fnExactNormalComb", unfollowed := true, recurses := true, apart := false, narrowed := true }
def FnExactNormalCombUptoSaid : Prop := fnExactNormalCombUptoRow.holds Try.pinned (OpenSpec.upto fnExactNormalCombSpec)

/-- 'laws.FnExactCombOfTerm', WHERE WHAT IT READS IS OF BULK AT MOST 1048576: true; the input reads as it did. -/
def fnExactCombOfTermUptoRow : OpenClaim := { program := "ytbkdlkpiaekblaa", sum := "fdbb818579ac6baba8235cc658293a59bfc01ec80899995305658290bfd2ae7e", func := "loop.example/g00201/laws.FnExactCombOfTerm", spec := "fnExactCombOfTerm", unfollowed := true, recurses := true, apart := false, narrowed := true }
def FnExactCombOfTermUptoSaid : Prop := fnExactCombOfTermUptoRow.holds Try.pinned (OpenSpec.upto fnExactCombOfTermSpec)

end Rows
end Go.Proofs.Ytbkdlkpiaekblaa
