/-
  No cell of these rows narrows 'for every input' (looked for: loops, veiled, ifaces, maps, wideKeys, modest, calm, conditions, laid).
  DERIVED. THE GIVEN ROWS OF THIS SEAT. 12 by the template 'for every input the law returns true; each argument reads behind the call as it read before'; 0 by the template 'total and deterministic' (their statements: YtbnagagdboeedaaTotals.lean).
  GIVEN WITH THE SEED: the statements are not yours to turn. If you find one false, say at which input.
  Laid BY PROGRAM, IN A SANDBOX (cutbox-rows.mjs): the forced cells as the released guide's own fill.sh prints them over the translation 05b651220836401e… (all of the seat's roots in one cut). By AI agents, Wed Nov 11 2026. No macro, syntax, notation, axiom, sorry.
-/
import Derived.Test.YtbnagagdboeedaaChecked
import GoSem.Claim
import GoSem.ClaimJoined
import GoSem.ClaimMapViews
import Derived.JoinedTies
import Derived.KernelRfl
namespace Go.Proofs.Ytbnagagdboeedaa
/- THE CELL 'sum', in the pinned program and in every row, IS THE sha256 OF THE DUMP (.gsa) THAT YtbnagagdboeedaaProg.lean LOADS. Nothing in Lean hashes anything: it is a label: what it is worth is what the hold of that sum in a sandbox is worth. -/
noncomputable def Try.pinned : Pinned := { name := "ytbnagagdboeedaa", sum := "05b651220836401ee1448cc71c17d4d840f49a7d9d07cd17a508e63bc0077499", checked := Try.checked }
namespace Rows
def none {H : Type} : Left H := { results := [], args := [] }

/-- 'laws.FnExactFreeIn': WHATEVER THE INPUT: true; the input reads as it did. -/
def fnExactFreeInSpec : ChangeSpec := { name := "fnExactFreeIn", fn := fun _ => fun
  | [d] => { results := [.lit (.bool true)], args := [d] }
  | _ => none }
def fnExactFreeInRow : OpenClaim := { program := "ytbnagagdboeedaa", sum := "05b651220836401ee1448cc71c17d4d840f49a7d9d07cd17a508e63bc0077499", func := "loop.example/g00201/laws.FnExactFreeIn", spec := "fnExactFreeIn", unfollowed := true, recurses := true, apart := false }
def FnExactFreeInSaid : Prop := fnExactFreeInRow.holds Try.pinned (OpenSpec.ofChange fnExactFreeInSpec)

/-- ITS FALSE NEIGHBOUR: 'it returns false'. Refute it at one input. -/
def fnExactFreeInWrong : ChangeSpec := { name := "fnExactFreeIn", fn := fun _ => fun
  | [d] => { results := [.lit (.bool false)], args := [d] }
  | _ => none }
def FnExactFreeInWrongFalsely : Prop := fnExactFreeInRow.holds Try.pinned (OpenSpec.ofChange fnExactFreeInWrong)

/-- 'laws.FnExactShiftTerm': WHATEVER THE INPUT: true; the input reads as it did. -/
def fnExactShiftTermSpec : ChangeSpec := { name := "fnExactShiftTerm", fn := fun _ => fun
  | [d1, d2, d3] => { results := [.lit (.bool true)], args := [d1, d2, d3] }
  | _ => none }
def fnExactShiftTermRow : OpenClaim := { program := "ytbnagagdboeedaa", sum := "05b651220836401ee1448cc71c17d4d840f49a7d9d07cd17a508e63bc0077499", func := "loop.example/g00201/laws.FnExactShiftTerm", spec := "fnExactShiftTerm", unfollowed := true, recurses := true, apart := false }
def FnExactShiftTermSaid : Prop := fnExactShiftTermRow.holds Try.pinned (OpenSpec.ofChange fnExactShiftTermSpec)

/-- ITS FALSE NEIGHBOUR: 'it returns false'. Refute it at one input. -/
def fnExactShiftTermWrong : ChangeSpec := { name := "fnExactShiftTerm", fn := fun _ => fun
  | [d1, d2, d3] => { results := [.lit (.bool false)], args := [d1, d2, d3] }
  | _ => none }
def FnExactShiftTermWrongFalsely : Prop := fnExactShiftTermRow.holds Try.pinned (OpenSpec.ofChange fnExactShiftTermWrong)

/-- 'laws.FnExactDevelopTerm': WHATEVER THE INPUT: true; the input reads as it did. -/
def fnExactDevelopTermSpec : ChangeSpec := { name := "fnExactDevelopTerm", fn := fun _ => fun
  | [d] => { results := [.lit (.bool true)], args := [d] }
  | _ => none }
def fnExactDevelopTermRow : OpenClaim := { program := "ytbnagagdboeedaa", sum := "05b651220836401ee1448cc71c17d4d840f49a7d9d07cd17a508e63bc0077499", func := "loop.example/g00201/laws.FnExactDevelopTerm", spec := "fnExactDevelopTerm", unfollowed := true, recurses := true, apart := false }
def FnExactDevelopTermSaid : Prop := fnExactDevelopTermRow.holds Try.pinned (OpenSpec.ofChange fnExactDevelopTermSpec)

/-- ITS FALSE NEIGHBOUR: 'it returns false'. Refute it at one input. -/
def fnExactDevelopTermWrong : ChangeSpec := { name := "fnExactDevelopTerm", fn := fun _ => fun
  | [d] => { results := [.lit (.bool false)], args := [d] }
  | _ => none }
def FnExactDevelopTermWrongFalsely : Prop := fnExactDevelopTermRow.holds Try.pinned (OpenSpec.ofChange fnExactDevelopTermWrong)

/-- 'laws.FnExactNormalTerm': WHATEVER THE INPUT: true; the input reads as it did. -/
def fnExactNormalTermSpec : ChangeSpec := { name := "fnExactNormalTerm", fn := fun _ => fun
  | [d1, d2] => { results := [.lit (.bool true)], args := [d1, d2] }
  | _ => none }
def fnExactNormalTermRow : OpenClaim := { program := "ytbnagagdboeedaa", sum := "05b651220836401ee1448cc71c17d4d840f49a7d9d07cd17a508e63bc0077499", func := "loop.example/g00201/laws.FnExactNormalTerm", spec := "fnExactNormalTerm", unfollowed := true, recurses := true, apart := false }
def FnExactNormalTermSaid : Prop := fnExactNormalTermRow.holds Try.pinned (OpenSpec.ofChange fnExactNormalTermSpec)

/-- ITS FALSE NEIGHBOUR: 'it returns false'. Refute it at one input. -/
def fnExactNormalTermWrong : ChangeSpec := { name := "fnExactNormalTerm", fn := fun _ => fun
  | [d1, d2] => { results := [.lit (.bool false)], args := [d1, d2] }
  | _ => none }
def FnExactNormalTermWrongFalsely : Prop := fnExactNormalTermRow.holds Try.pinned (OpenSpec.ofChange fnExactNormalTermWrong)

/-- 'laws.FnExactCombOfTerm': WHATEVER THE INPUT: true; the input reads as it did. -/
def fnExactCombOfTermSpec : ChangeSpec := { name := "fnExactCombOfTerm", fn := fun _ => fun
  | [d] => { results := [.lit (.bool true)], args := [d] }
  | _ => none }
def fnExactCombOfTermRow : OpenClaim := { program := "ytbnagagdboeedaa", sum := "05b651220836401ee1448cc71c17d4d840f49a7d9d07cd17a508e63bc0077499", func := "loop.example/g00201/laws.FnExactCombOfTerm", spec := "fnExactCombOfTerm", unfollowed := true, recurses := true, apart := false }
def FnExactCombOfTermSaid : Prop := fnExactCombOfTermRow.holds Try.pinned (OpenSpec.ofChange fnExactCombOfTermSpec)

/-- ITS FALSE NEIGHBOUR: 'it returns false'. Refute it at one input. -/
def fnExactCombOfTermWrong : ChangeSpec := { name := "fnExactCombOfTerm", fn := fun _ => fun
  | [d] => { results := [.lit (.bool false)], args := [d] }
  | _ => none }
def FnExactCombOfTermWrongFalsely : Prop := fnExactCombOfTermRow.holds Try.pinned (OpenSpec.ofChange fnExactCombOfTermWrong)

/-- 'laws.FnExactValueTerm': WHATEVER THE INPUT: true; the input reads as it did. -/
def fnExactValueTermSpec : ChangeSpec := { name := "fnExactValueTerm", fn := fun _ => fun
  | [d1, d2] => { results := [.lit (.bool true)], args := [d1, d2] }
  | _ => none }
def fnExactValueTermRow : OpenClaim := { program := "ytbnagagdboeedaa", sum := "05b651220836401ee1448cc71c17d4d840f49a7d9d07cd17a508e63bc0077499", func := "loop.example/g00201/laws.FnExactValueTerm", spec := "fnExactValueTerm", unfollowed := true, recurses := true, apart := false }
def FnExactValueTermSaid : Prop := fnExactValueTermRow.holds Try.pinned (OpenSpec.ofChange fnExactValueTermSpec)

/-- ITS FALSE NEIGHBOUR: 'it returns false'. Refute it at one input. -/
def fnExactValueTermWrong : ChangeSpec := { name := "fnExactValueTerm", fn := fun _ => fun
  | [d1, d2] => { results := [.lit (.bool false)], args := [d1, d2] }
  | _ => none }
def FnExactValueTermWrongFalsely : Prop := fnExactValueTermRow.holds Try.pinned (OpenSpec.ofChange fnExactValueTermWrong)

/-- 'laws.FnExactHeadTerm': WHATEVER THE INPUT: true; the input reads as it did. -/
def fnExactHeadTermSpec : ChangeSpec := { name := "fnExactHeadTerm", fn := fun _ => fun
  | [d1, d2] => { results := [.lit (.bool true)], args := [d1, d2] }
  | _ => none }
def fnExactHeadTermRow : OpenClaim := { program := "ytbnagagdboeedaa", sum := "05b651220836401ee1448cc71c17d4d840f49a7d9d07cd17a508e63bc0077499", func := "loop.example/g00201/laws.FnExactHeadTerm", spec := "fnExactHeadTerm", unfollowed := true, recurses := true, apart := false }
def FnExactHeadTermSaid : Prop := fnExactHeadTermRow.holds Try.pinned (OpenSpec.ofChange fnExactHeadTermSpec)

/-- ITS FALSE NEIGHBOUR: 'it returns false'. Refute it at one input. -/
def fnExactHeadTermWrong : ChangeSpec := { name := "fnExactHeadTerm", fn := fun _ => fun
  | [d1, d2] => { results := [.lit (.bool false)], args := [d1, d2] }
  | _ => none }
def FnExactHeadTermWrongFalsely : Prop := fnExactHeadTermRow.holds Try.pinned (OpenSpec.ofChange fnExactHeadTermWrong)

/-- 'laws.FnExactPassTerm': WHATEVER THE INPUT: true; the input reads as it did. -/
def fnExactPassTermSpec : ChangeSpec := { name := "fnExactPassTerm", fn := fun _ => fun
  | [d] => { results := [.lit (.bool true)], args := [d] }
  | _ => none }
def fnExactPassTermRow : OpenClaim := { program := "ytbnagagdboeedaa", sum := "05b651220836401ee1448cc71c17d4d840f49a7d9d07cd17a508e63bc0077499", func := "loop.example/g00201/laws.FnExactPassTerm", spec := "fnExactPassTerm", unfollowed := true, recurses := true, apart := false }
def FnExactPassTermSaid : Prop := fnExactPassTermRow.holds Try.pinned (OpenSpec.ofChange fnExactPassTermSpec)

/-- ITS FALSE NEIGHBOUR: 'it returns false'. Refute it at one input. -/
def fnExactPassTermWrong : ChangeSpec := { name := "fnExactPassTerm", fn := fun _ => fun
  | [d] => { results := [.lit (.bool false)], args := [d] }
  | _ => none }
def FnExactPassTermWrongFalsely : Prop := fnExactPassTermRow.holds Try.pinned (OpenSpec.ofChange fnExactPassTermWrong)

/-- 'laws.FnExactPassValue': WHATEVER THE INPUT: true; the input reads as it did. -/
def fnExactPassValueSpec : ChangeSpec := { name := "fnExactPassValue", fn := fun _ => fun
  | [d] => { results := [.lit (.bool true)], args := [d] }
  | _ => none }
def fnExactPassValueRow : OpenClaim := { program := "ytbnagagdboeedaa", sum := "05b651220836401ee1448cc71c17d4d840f49a7d9d07cd17a508e63bc0077499", func := "loop.example/g00201/laws.FnExactPassValue", spec := "fnExactPassValue", unfollowed := true, recurses := true, apart := false }
def FnExactPassValueSaid : Prop := fnExactPassValueRow.holds Try.pinned (OpenSpec.ofChange fnExactPassValueSpec)

/-- ITS FALSE NEIGHBOUR: 'it returns false'. Refute it at one input. -/
def fnExactPassValueWrong : ChangeSpec := { name := "fnExactPassValue", fn := fun _ => fun
  | [d] => { results := [.lit (.bool false)], args := [d] }
  | _ => none }
def FnExactPassValueWrongFalsely : Prop := fnExactPassValueRow.holds Try.pinned (OpenSpec.ofChange fnExactPassValueWrong)

/-- 'laws.FnExactIsValue': WHATEVER THE INPUT: true; the input reads as it did. -/
def fnExactIsValueSpec : ChangeSpec := { name := "fnExactIsValue", fn := fun _ => fun
  | [d] => { results := [.lit (.bool true)], args := [d] }
  | _ => none }
def fnExactIsValueRow : OpenClaim := { program := "ytbnagagdboeedaa", sum := "05b651220836401ee1448cc71c17d4d840f49a7d9d07cd17a508e63bc0077499", func := "loop.example/g00201/laws.FnExactIsValue", spec := "fnExactIsValue", unfollowed := true, recurses := true, apart := false }
def FnExactIsValueSaid : Prop := fnExactIsValueRow.holds Try.pinned (OpenSpec.ofChange fnExactIsValueSpec)

/-- ITS FALSE NEIGHBOUR: 'it returns false'. Refute it at one input. -/
def fnExactIsValueWrong : ChangeSpec := { name := "fnExactIsValue", fn := fun _ => fun
  | [d] => { results := [.lit (.bool false)], args := [d] }
  | _ => none }
def FnExactIsValueWrongFalsely : Prop := fnExactIsValueRow.holds Try.pinned (OpenSpec.ofChange fnExactIsValueWrong)

/-- 'laws.FnExactApplyTerm': WHATEVER THE INPUT: true; the input reads as it did. -/
def fnExactApplyTermSpec : ChangeSpec := { name := "fnExactApplyTerm", fn := fun _ => fun
  | [d1, d2] => { results := [.lit (.bool true)], args := [d1, d2] }
  | _ => none }
def fnExactApplyTermRow : OpenClaim := { program := "ytbnagagdboeedaa", sum := "05b651220836401ee1448cc71c17d4d840f49a7d9d07cd17a508e63bc0077499", func := "loop.example/g00201/laws.FnExactApplyTerm", spec := "fnExactApplyTerm", unfollowed := true, recurses := true, apart := false }
def FnExactApplyTermSaid : Prop := fnExactApplyTermRow.holds Try.pinned (OpenSpec.ofChange fnExactApplyTermSpec)

/-- ITS FALSE NEIGHBOUR: 'it returns false'. Refute it at one input. -/
def fnExactApplyTermWrong : ChangeSpec := { name := "fnExactApplyTerm", fn := fun _ => fun
  | [d1, d2] => { results := [.lit (.bool false)], args := [d1, d2] }
  | _ => none }
def FnExactApplyTermWrongFalsely : Prop := fnExactApplyTermRow.holds Try.pinned (OpenSpec.ofChange fnExactApplyTermWrong)

/-- 'laws.FnExactRunPassed': WHATEVER THE INPUT: true; the input reads as it did. -/
def fnExactRunPassedSpec : ChangeSpec := { name := "fnExactRunPassed", fn := fun _ => fun
  | [d1, d2] => { results := [.lit (.bool true)], args := [d1, d2] }
  | _ => none }
def fnExactRunPassedRow : OpenClaim := { program := "ytbnagagdboeedaa", sum := "05b651220836401ee1448cc71c17d4d840f49a7d9d07cd17a508e63bc0077499", func := "loop.example/g00201/laws.FnExactRunPassed", spec := "fnExactRunPassed", unfollowed := true, recurses := true, apart := false }
def FnExactRunPassedSaid : Prop := fnExactRunPassedRow.holds Try.pinned (OpenSpec.ofChange fnExactRunPassedSpec)

/-- ITS FALSE NEIGHBOUR: 'it returns false'. Refute it at one input. -/
def fnExactRunPassedWrong : ChangeSpec := { name := "fnExactRunPassed", fn := fun _ => fun
  | [d1, d2] => { results := [.lit (.bool false)], args := [d1, d2] }
  | _ => none }
def FnExactRunPassedWrongFalsely : Prop := fnExactRunPassedRow.holds Try.pinned (OpenSpec.ofChange fnExactRunPassedWrong)

/- THE SECOND FORM. 'bulk': how many values and letters a reading holds, each counted each time it is reached (what is shared counts as often as it is met; a slice's spare places count too). A statement '..UptoSaid' is the law's where the arguments, and the package variables that the reading takes, are together of bulk at most 1048576: NARROWER than '..Said'. Prove '..Said' where nothing that the law and all that it calls make is longer than what came in: it says more and counts as full. Else prove '..UptoSaid'. A law counts once. -/
mutual
def uptoBulk {H : Type} : DataW H → Nat
  | .lit (.string bytes) => bytes.length + 1
  | .lit _ => 1
  | .nil => 1
  | .ptr d => uptoBulk d + 1
  | .slice elems spare => uptoBulkAll elems + uptoBulkAll spare + 1
  | .agg parts => uptoBulkAll parts + 1
  | .iface _ d => uptoBulk d + 1
  | .map entries => uptoBulkEntries entries + 1
  | .held _ => 1
def uptoBulkAll {H : Type} : List (DataW H) → Nat
  | [] => 0
  | d :: r => uptoBulk d + uptoBulkAll r
def uptoBulkEntries {H : Type} : List (Lit × DataW H) → Nat
  | [] => 0
  | x :: r => uptoBulkEntry x + uptoBulkEntries r
def uptoBulkEntry {H : Type} : Lit × DataW H → Nat
  | (.string bytes, d) => bytes.length + uptoBulk d + 1
  | (_, d) => uptoBulk d + 1
 end
def uptoSmall : (H : Type) → List (DataW H) → Bool := fun _ ds => decide (uptoBulkAll ds ≤ 1048576)
def OpenSpec.upto (s : _root_.Go.ChangeSpec) : _root_.Go.OpenSpec := { _root_.Go.OpenSpec.ofChange s with cond := some uptoSmall }

/-- 'laws.FnExactFreeIn', WHERE WHAT IT READS IS OF BULK AT MOST 1048576: true; the input reads as it did. -/
def fnExactFreeInUptoRow : OpenClaim := { program := "ytbnagagdboeedaa", sum := "05b651220836401ee1448cc71c17d4d840f49a7d9d07cd17a508e63bc0077499", func := "loop.example/g00201/laws.FnExactFreeIn", spec := "fnExactFreeIn", unfollowed := true, recurses := true, apart := false, narrowed := true }
def FnExactFreeInUptoSaid : Prop := fnExactFreeInUptoRow.holds Try.pinned (OpenSpec.upto fnExactFreeInSpec)

/-- 'laws.FnExactShiftTerm', WHERE WHAT IT READS IS OF BULK AT MOST 1048576: true; the input reads as it did. -/
def fnExactShiftTermUptoRow : OpenClaim := { program := "ytbnagagdboeedaa", sum := "05b651220836401ee1448cc71c17d4d840f49a7d9d07cd17a508e63bc0077499", func := "loop.example/g00201/laws.FnExactShiftTerm", spec := "fnExactShiftTerm", unfollowed := true, recurses := true, apart := false, narrowed := true }
def FnExactShiftTermUptoSaid : Prop := fnExactShiftTermUptoRow.holds Try.pinned (OpenSpec.upto fnExactShiftTermSpec)

/-- 'laws.FnExactDevelopTerm', WHERE WHAT IT READS IS OF BULK AT MOST 1048576: true; the input reads as it did. -/
def fnExactDevelopTermUptoRow : OpenClaim := { program := "ytbnagagdboeedaa", sum := "05b651220836401ee1448cc71c17d4d840f49a7d9d07cd17a508e63bc0077499", func := "loop.example/g00201/laws.FnExactDevelopTerm", spec := "fnExactDevelopTerm", unfollowed := true, recurses := true, apart := false, narrowed := true }
def FnExactDevelopTermUptoSaid : Prop := fnExactDevelopTermUptoRow.holds Try.pinned (OpenSpec.upto fnExactDevelopTermSpec)

/-- 'laws.FnExactNormalTerm', WHERE WHAT IT READS IS OF BULK AT MOST 1048576: true; the input reads as it did. -/
def fnExactNormalTermUptoRow : OpenClaim := { program := "ytbnagagdboeedaa", sum := "05b651220836401ee1448cc71c17d4d840f49a7d9d07cd17a508e63bc0077499", func := "loop.example/g00201/laws.FnExactNormalTerm", spec := "fnExactNormalTerm", unfollowed := true, recurses := true, apart := false, narrowed := true }
def FnExactNormalTermUptoSaid : Prop := fnExactNormalTermUptoRow.holds Try.pinned (OpenSpec.upto fnExactNormalTermSpec)

/-- 'laws.FnExactCombOfTerm', WHERE WHAT IT READS IS OF BULK AT MOST 1048576: true; the input reads as it did. -/
def fnExactCombOfTermUptoRow : OpenClaim := { program := "ytbnagagdboeedaa", sum := "05b651220836401ee1448cc71c17d4d840f49a7d9d07cd17a508e63bc0077499", func := "loop.example/g00201/laws.FnExactCombOfTerm", spec := "fnExactCombOfTerm", unfollowed := true, recurses := true, apart := false, narrowed := true }
def FnExactCombOfTermUptoSaid : Prop := fnExactCombOfTermUptoRow.holds Try.pinned (OpenSpec.upto fnExactCombOfTermSpec)

/-- 'laws.FnExactValueTerm', WHERE WHAT IT READS IS OF BULK AT MOST 1048576: true; the input reads as it did. -/
def fnExactValueTermUptoRow : OpenClaim := { program := "ytbnagagdboeedaa", sum := "05b651220836401ee1448cc71c17d4d840f49a7d9d07cd17a508e63bc0077499", func := "loop.example/g00201/laws.FnExactValueTerm", spec := "fnExactValueTerm", unfollowed := true, recurses := true, apart := false, narrowed := true }
def FnExactValueTermUptoSaid : Prop := fnExactValueTermUptoRow.holds Try.pinned (OpenSpec.upto fnExactValueTermSpec)

/-- 'laws.FnExactHeadTerm', WHERE WHAT IT READS IS OF BULK AT MOST 1048576: true; the input reads as it did. -/
def fnExactHeadTermUptoRow : OpenClaim := { program := "ytbnagagdboeedaa", sum := "05b651220836401ee1448cc71c17d4d840f49a7d9d07cd17a508e63bc0077499", func := "loop.example/g00201/laws.FnExactHeadTerm", spec := "fnExactHeadTerm", unfollowed := true, recurses := true, apart := false, narrowed := true }
def FnExactHeadTermUptoSaid : Prop := fnExactHeadTermUptoRow.holds Try.pinned (OpenSpec.upto fnExactHeadTermSpec)

/-- 'laws.FnExactPassTerm', WHERE WHAT IT READS IS OF BULK AT MOST 1048576: true; the input reads as it did. -/
def fnExactPassTermUptoRow : OpenClaim := { program := "ytbnagagdboeedaa", sum := "05b651220836401ee1448cc71c17d4d840f49a7d9d07cd17a508e63bc0077499", func := "loop.example/g00201/laws.FnExactPassTerm", spec := "fnExactPassTerm", unfollowed := true, recurses := true, apart := false, narrowed := true }
def FnExactPassTermUptoSaid : Prop := fnExactPassTermUptoRow.holds Try.pinned (OpenSpec.upto fnExactPassTermSpec)

/-- 'laws.FnExactPassValue', WHERE WHAT IT READS IS OF BULK AT MOST 1048576: true; the input reads as it did. -/
def fnExactPassValueUptoRow : OpenClaim := { program := "ytbnagagdboeedaa", sum := "05b651220836401ee1448cc71c17d4d840f49a7d9d07cd17a508e63bc0077499", func := "loop.example/g00201/laws.FnExactPassValue", spec := "fnExactPassValue", unfollowed := true, recurses := true, apart := false, narrowed := true }
def FnExactPassValueUptoSaid : Prop := fnExactPassValueUptoRow.holds Try.pinned (OpenSpec.upto fnExactPassValueSpec)

/-- 'laws.FnExactIsValue', WHERE WHAT IT READS IS OF BULK AT MOST 1048576: true; the input reads as it did. -/
def fnExactIsValueUptoRow : OpenClaim := { program := "ytbnagagdboeedaa", sum := "05b651220836401ee1448cc71c17d4d840f49a7d9d07cd17a508e63bc0077499", func := "loop.example/g00201/laws.FnExactIsValue", spec := "fnExactIsValue", unfollowed := true, recurses := true, apart := false, narrowed := true }
def FnExactIsValueUptoSaid : Prop := fnExactIsValueUptoRow.holds Try.pinned (OpenSpec.upto fnExactIsValueSpec)

/-- 'laws.FnExactApplyTerm', WHERE WHAT IT READS IS OF BULK AT MOST 1048576: true; the input reads as it did. -/
def fnExactApplyTermUptoRow : OpenClaim := { program := "ytbnagagdboeedaa", sum := "05b651220836401ee1448cc71c17d4d840f49a7d9d07cd17a508e63bc0077499", func := "loop.example/g00201/laws.FnExactApplyTerm", spec := "fnExactApplyTerm", unfollowed := true, recurses := true, apart := false, narrowed := true }
def FnExactApplyTermUptoSaid : Prop := fnExactApplyTermUptoRow.holds Try.pinned (OpenSpec.upto fnExactApplyTermSpec)

/-- 'laws.FnExactRunPassed', WHERE WHAT IT READS IS OF BULK AT MOST 1048576: true; the input reads as it did. -/
def fnExactRunPassedUptoRow : OpenClaim := { program := "ytbnagagdboeedaa", sum := "05b651220836401ee1448cc71c17d4d840f49a7d9d07cd17a508e63bc0077499", func := "loop.example/g00201/laws.FnExactRunPassed", spec := "fnExactRunPassed", unfollowed := true, recurses := true, apart := false, narrowed := true }
def FnExactRunPassedUptoSaid : Prop := fnExactRunPassedUptoRow.holds Try.pinned (OpenSpec.upto fnExactRunPassedSpec)

end Rows
end Go.Proofs.Ytbnagagdboeedaa
