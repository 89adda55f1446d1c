/-
  No cell of these rows narrows 'for every input' (looked for: loops, veiled, ifaces, maps, wideKeys, modest, calm, conditions, laid).
  DERIVED. THE GIVEN ROWS OF THIS SEAT. 8 by the template 'for every input the law returns true; each argument reads behind the call as it read before'; 0 by the template 'total and deterministic' (their statements: YtoiegaggekgmjaaTotals.lean).
  GIVEN WITH THE SEED: the statements are not yours to turn. If you find one false, say at which input.
  Laid BY PROGRAM, IN A SANDBOX (cutbox-rows.mjs): the forced cells as the released guide's own fill.sh prints them over the translation d4ac1f5ff691d799… (all of the seat's roots in one cut). By AI agents, Wed Nov 11 2026. No macro, syntax, notation, axiom, sorry.
-/
import Derived.Test.YtoiegaggekgmjaaChecked
import GoSem.Claim
import GoSem.ClaimJoined
import GoSem.ClaimMapViews
import Derived.JoinedTies
import Derived.KernelRfl
namespace Go.Proofs.Ytoiegaggekgmjaa
/- THE CELL 'sum', in the pinned program and in every row, IS THE sha256 OF THE DUMP (.gsa) THAT YtoiegaggekgmjaaProg.lean LOADS. Nothing in Lean hashes anything: it is a label: what it is worth is what the hold of that sum in a sandbox is worth. -/
noncomputable def Try.pinned : Pinned := { name := "ytoiegaggekgmjaa", sum := "d4ac1f5ff691d799904ba098898c7b5a30831046587dfc683b51809a4d1bcf5a", checked := Try.checked }
namespace Rows
def none {H : Type} : Left H := { results := [], args := [] }

/-- 'laws.FnExactGoodReal': WHATEVER THE INPUT: true; the input reads as it did. -/
def fnExactGoodRealSpec : ChangeSpec := { name := "fnExactGoodReal", fn := fun _ => fun
  | [d] => { results := [.lit (.bool true)], args := [d] }
  | _ => none }
def fnExactGoodRealRow : OpenClaim := { program := "ytoiegaggekgmjaa", sum := "d4ac1f5ff691d799904ba098898c7b5a30831046587dfc683b51809a4d1bcf5a", func := "loop.example/g00201/laws.FnExactGoodReal", spec := "fnExactGoodReal", apart := false }
def FnExactGoodRealSaid : Prop := fnExactGoodRealRow.holds Try.pinned (OpenSpec.ofChange fnExactGoodRealSpec)

/-- ITS FALSE NEIGHBOUR: 'it returns false'. Refute it at one input. -/
def fnExactGoodRealWrong : ChangeSpec := { name := "fnExactGoodReal", fn := fun _ => fun
  | [d] => { results := [.lit (.bool false)], args := [d] }
  | _ => none }
def FnExactGoodRealWrongFalsely : Prop := fnExactGoodRealRow.holds Try.pinned (OpenSpec.ofChange fnExactGoodRealWrong)

/-- 'laws.FnExactRealOfNum': WHATEVER THE INPUT: true; the input reads as it did. -/
def fnExactRealOfNumSpec : ChangeSpec := { name := "fnExactRealOfNum", fn := fun _ => fun
  | [d] => { results := [.lit (.bool true)], args := [d] }
  | _ => none }
def fnExactRealOfNumRow : OpenClaim := { program := "ytoiegaggekgmjaa", sum := "d4ac1f5ff691d799904ba098898c7b5a30831046587dfc683b51809a4d1bcf5a", func := "loop.example/g00201/laws.FnExactRealOfNum", spec := "fnExactRealOfNum", inPlace := ["internal/bytealg.IndexByteString", "internal/bytealg.IndexString", "math.Float64bits", "math.Float64frombits"], recurses := true, named := ["internal/bytealg.MaxLen"], apart := false }
def FnExactRealOfNumSaid : Prop := fnExactRealOfNumRow.holds Try.pinned (OpenSpec.ofChange fnExactRealOfNumSpec)

/-- ITS FALSE NEIGHBOUR: 'it returns false'. Refute it at one input. -/
def fnExactRealOfNumWrong : ChangeSpec := { name := "fnExactRealOfNum", fn := fun _ => fun
  | [d] => { results := [.lit (.bool false)], args := [d] }
  | _ => none }
def FnExactRealOfNumWrongFalsely : Prop := fnExactRealOfNumRow.holds Try.pinned (OpenSpec.ofChange fnExactRealOfNumWrong)

/-- 'laws.FnExactCompareReal': WHATEVER THE INPUT: true; the input reads as it did. -/
def fnExactCompareRealSpec : ChangeSpec := { name := "fnExactCompareReal", fn := fun _ => fun
  | [d1, d2] => { results := [.lit (.bool true)], args := [d1, d2] }
  | _ => none }
def fnExactCompareRealRow : OpenClaim := { program := "ytoiegaggekgmjaa", sum := "d4ac1f5ff691d799904ba098898c7b5a30831046587dfc683b51809a4d1bcf5a", func := "loop.example/g00201/laws.FnExactCompareReal", spec := "fnExactCompareReal", recurses := true, apart := false }
def FnExactCompareRealSaid : Prop := fnExactCompareRealRow.holds Try.pinned (OpenSpec.ofChange fnExactCompareRealSpec)

/-- ITS FALSE NEIGHBOUR: 'it returns false'. Refute it at one input. -/
def fnExactCompareRealWrong : ChangeSpec := { name := "fnExactCompareReal", fn := fun _ => fun
  | [d1, d2] => { results := [.lit (.bool false)], args := [d1, d2] }
  | _ => none }
def FnExactCompareRealWrongFalsely : Prop := fnExactCompareRealRow.holds Try.pinned (OpenSpec.ofChange fnExactCompareRealWrong)

/-- 'laws.FnExactNextReal': WHATEVER THE INPUT: true; the input reads as it did. -/
def fnExactNextRealSpec : ChangeSpec := { name := "fnExactNextReal", fn := fun _ => fun
  | [d] => { results := [.lit (.bool true)], args := [d] }
  | _ => none }
def fnExactNextRealRow : OpenClaim := { program := "ytoiegaggekgmjaa", sum := "d4ac1f5ff691d799904ba098898c7b5a30831046587dfc683b51809a4d1bcf5a", func := "loop.example/g00201/laws.FnExactNextReal", spec := "fnExactNextReal", apart := false }
def FnExactNextRealSaid : Prop := fnExactNextRealRow.holds Try.pinned (OpenSpec.ofChange fnExactNextRealSpec)

/-- ITS FALSE NEIGHBOUR: 'it returns false'. Refute it at one input. -/
def fnExactNextRealWrong : ChangeSpec := { name := "fnExactNextReal", fn := fun _ => fun
  | [d] => { results := [.lit (.bool false)], args := [d] }
  | _ => none }
def FnExactNextRealWrongFalsely : Prop := fnExactNextRealRow.holds Try.pinned (OpenSpec.ofChange fnExactNextRealWrong)

/-- 'laws.FnExactAddReal': WHATEVER THE INPUT: true; the input reads as it did. -/
def fnExactAddRealSpec : ChangeSpec := { name := "fnExactAddReal", fn := fun _ => fun
  | [d1, d2] => { results := [.lit (.bool true)], args := [d1, d2] }
  | _ => none }
def fnExactAddRealRow : OpenClaim := { program := "ytoiegaggekgmjaa", sum := "d4ac1f5ff691d799904ba098898c7b5a30831046587dfc683b51809a4d1bcf5a", func := "loop.example/g00201/laws.FnExactAddReal", spec := "fnExactAddReal", inPlace := ["math.Float64bits", "math.Float64frombits"], recurses := true, apart := false }
def FnExactAddRealSaid : Prop := fnExactAddRealRow.holds Try.pinned (OpenSpec.ofChange fnExactAddRealSpec)

/-- ITS FALSE NEIGHBOUR: 'it returns false'. Refute it at one input. -/
def fnExactAddRealWrong : ChangeSpec := { name := "fnExactAddReal", fn := fun _ => fun
  | [d1, d2] => { results := [.lit (.bool false)], args := [d1, d2] }
  | _ => none }
def FnExactAddRealWrongFalsely : Prop := fnExactAddRealRow.holds Try.pinned (OpenSpec.ofChange fnExactAddRealWrong)

/-- 'laws.FnExactSubReal': WHATEVER THE INPUT: true; the input reads as it did. -/
def fnExactSubRealSpec : ChangeSpec := { name := "fnExactSubReal", fn := fun _ => fun
  | [d1, d2] => { results := [.lit (.bool true)], args := [d1, d2] }
  | _ => none }
def fnExactSubRealRow : OpenClaim := { program := "ytoiegaggekgmjaa", sum := "d4ac1f5ff691d799904ba098898c7b5a30831046587dfc683b51809a4d1bcf5a", func := "loop.example/g00201/laws.FnExactSubReal", spec := "fnExactSubReal", inPlace := ["math.Float64bits", "math.Float64frombits"], recurses := true, apart := false }
def FnExactSubRealSaid : Prop := fnExactSubRealRow.holds Try.pinned (OpenSpec.ofChange fnExactSubRealSpec)

/-- ITS FALSE NEIGHBOUR: 'it returns false'. Refute it at one input. -/
def fnExactSubRealWrong : ChangeSpec := { name := "fnExactSubReal", fn := fun _ => fun
  | [d1, d2] => { results := [.lit (.bool false)], args := [d1, d2] }
  | _ => none }
def FnExactSubRealWrongFalsely : Prop := fnExactSubRealRow.holds Try.pinned (OpenSpec.ofChange fnExactSubRealWrong)

/-- 'laws.FnExactMulReal': WHATEVER THE INPUT: true; the input reads as it did. -/
def fnExactMulRealSpec : ChangeSpec := { name := "fnExactMulReal", fn := fun _ => fun
  | [d1, d2] => { results := [.lit (.bool true)], args := [d1, d2] }
  | _ => none }
def fnExactMulRealRow : OpenClaim := { program := "ytoiegaggekgmjaa", sum := "d4ac1f5ff691d799904ba098898c7b5a30831046587dfc683b51809a4d1bcf5a", func := "loop.example/g00201/laws.FnExactMulReal", spec := "fnExactMulReal", inPlace := ["math.Float64bits", "math.Float64frombits"], recurses := true, apart := false }
def FnExactMulRealSaid : Prop := fnExactMulRealRow.holds Try.pinned (OpenSpec.ofChange fnExactMulRealSpec)

/-- ITS FALSE NEIGHBOUR: 'it returns false'. Refute it at one input. -/
def fnExactMulRealWrong : ChangeSpec := { name := "fnExactMulReal", fn := fun _ => fun
  | [d1, d2] => { results := [.lit (.bool false)], args := [d1, d2] }
  | _ => none }
def FnExactMulRealWrongFalsely : Prop := fnExactMulRealRow.holds Try.pinned (OpenSpec.ofChange fnExactMulRealWrong)

/-- 'laws.FnExactDivReal': WHATEVER THE INPUT: true; the input reads as it did. -/
def fnExactDivRealSpec : ChangeSpec := { name := "fnExactDivReal", fn := fun _ => fun
  | [d1, d2] => { results := [.lit (.bool true)], args := [d1, d2] }
  | _ => none }
def fnExactDivRealRow : OpenClaim := { program := "ytoiegaggekgmjaa", sum := "d4ac1f5ff691d799904ba098898c7b5a30831046587dfc683b51809a4d1bcf5a", func := "loop.example/g00201/laws.FnExactDivReal", spec := "fnExactDivReal", inPlace := ["math.Float64bits", "math.Float64frombits"], recurses := true, apart := false }
def FnExactDivRealSaid : Prop := fnExactDivRealRow.holds Try.pinned (OpenSpec.ofChange fnExactDivRealSpec)

/-- ITS FALSE NEIGHBOUR: 'it returns false'. Refute it at one input. -/
def fnExactDivRealWrong : ChangeSpec := { name := "fnExactDivReal", fn := fun _ => fun
  | [d1, d2] => { results := [.lit (.bool false)], args := [d1, d2] }
  | _ => none }
def FnExactDivRealWrongFalsely : Prop := fnExactDivRealRow.holds Try.pinned (OpenSpec.ofChange fnExactDivRealWrong)

/- THE SECOND FORM. 'bulk': how many values and letters a reading holds, each counted each time it is reached (what is shared counts as often as it is met; a slice's spare places count too). A statement '..UptoSaid' is the law's where the arguments, and the package variables that the reading takes, are together of bulk at most 1048576: NARROWER than '..Said'. Prove '..Said' where nothing that the law and all that it calls make is longer than what came in: it says more and counts as full. Else prove '..UptoSaid'. A law counts once. -/
mutual
def uptoBulk {H : Type} : DataW H → Nat
  | .lit (.string bytes) => bytes.length + 1
  | .lit _ => 1
  | .nil => 1
  | .ptr d => uptoBulk d + 1
  | .slice elems spare => uptoBulkAll elems + uptoBulkAll spare + 1
  | .agg parts => uptoBulkAll parts + 1
  | .iface _ d => uptoBulk d + 1
  | .map entries => uptoBulkEntries entries + 1
  | .held _ => 1
def uptoBulkAll {H : Type} : List (DataW H) → Nat
  | [] => 0
  | d :: r => uptoBulk d + uptoBulkAll r
def uptoBulkEntries {H : Type} : List (Lit × DataW H) → Nat
  | [] => 0
  | x :: r => uptoBulkEntry x + uptoBulkEntries r
def uptoBulkEntry {H : Type} : Lit × DataW H → Nat
  | (.string bytes, d) => bytes.length + uptoBulk d + 1
  | (_, d) => uptoBulk d + 1
 end
def uptoSmall : (H : Type) → List (DataW H) → Bool := fun _ ds => decide (uptoBulkAll ds ≤ 1048576)
def OpenSpec.upto (s : _root_.Go.ChangeSpec) : _root_.Go.OpenSpec := { _root_.Go.OpenSpec.ofChange s with cond := some uptoSmall }

/-- 'laws.FnExactGoodReal', WHERE WHAT IT READS IS OF BULK AT MOST 1048576: true; the input reads as it did. -/
def fnExactGoodRealUptoRow : OpenClaim := { program := "ytoiegaggekgmjaa", sum := "d4ac1f5ff691d799904ba098898c7b5a30831046587dfc683b51809a4d1bcf5a", func := "loop.example/g00201/laws.FnExactGoodReal", spec := "fnExactGoodReal", apart := false, narrowed := true }
def FnExactGoodRealUptoSaid : Prop := fnExactGoodRealUptoRow.holds Try.pinned (OpenSpec.upto fnExactGoodRealSpec)

/-- 'laws.FnExactRealOfNum', WHERE WHAT IT READS IS OF BULK AT MOST 1048576: true; the input reads as it did. -/
def fnExactRealOfNumUptoRow : OpenClaim := { program := "ytoiegaggekgmjaa", sum := "d4ac1f5ff691d799904ba098898c7b5a30831046587dfc683b51809a4d1bcf5a", func := "loop.example/g00201/laws.FnExactRealOfNum", spec := "fnExactRealOfNum", inPlace := ["internal/bytealg.IndexByteString", "internal/bytealg.IndexString", "math.Float64bits", "math.Float64frombits"], recurses := true, named := ["internal/bytealg.MaxLen"], apart := false, narrowed := true }
def FnExactRealOfNumUptoSaid : Prop := fnExactRealOfNumUptoRow.holds Try.pinned (OpenSpec.upto fnExactRealOfNumSpec)

/-- 'laws.FnExactCompareReal', WHERE WHAT IT READS IS OF BULK AT MOST 1048576: true; the input reads as it did. -/
def fnExactCompareRealUptoRow : OpenClaim := { program := "ytoiegaggekgmjaa", sum := "d4ac1f5ff691d799904ba098898c7b5a30831046587dfc683b51809a4d1bcf5a", func := "loop.example/g00201/laws.FnExactCompareReal", spec := "fnExactCompareReal", recurses := true, apart := false, narrowed := true }
def FnExactCompareRealUptoSaid : Prop := fnExactCompareRealUptoRow.holds Try.pinned (OpenSpec.upto fnExactCompareRealSpec)

/-- 'laws.FnExactNextReal', WHERE WHAT IT READS IS OF BULK AT MOST 1048576: true; the input reads as it did. -/
def fnExactNextRealUptoRow : OpenClaim := { program := "ytoiegaggekgmjaa", sum := "d4ac1f5ff691d799904ba098898c7b5a30831046587dfc683b51809a4d1bcf5a", func := "loop.example/g00201/laws.FnExactNextReal", spec := "fnExactNextReal", apart := false, narrowed := true }
def FnExactNextRealUptoSaid : Prop := fnExactNextRealUptoRow.holds Try.pinned (OpenSpec.upto fnExactNextRealSpec)

/-- 'laws.FnExactAddReal', WHERE WHAT IT READS IS OF BULK AT MOST 1048576: true; the input reads as it did. -/
def fnExactAddRealUptoRow : OpenClaim := { program := "ytoiegaggekgmjaa", sum := "d4ac1f5ff691d799904ba098898c7b5a30831046587dfc683b51809a4d1bcf5a", func := "loop.example/g00201/laws.FnExactAddReal", spec := "fnExactAddReal", inPlace := ["math.Float64bits", "math.Float64frombits"], recurses := true, apart := false, narrowed := true }
def FnExactAddRealUptoSaid : Prop := fnExactAddRealUptoRow.holds Try.pinned (OpenSpec.upto fnExactAddRealSpec)

/-- 'laws.FnExactSubReal', WHERE WHAT IT READS IS OF BULK AT MOST 1048576: true; the input reads as it did. -/
def fnExactSubRealUptoRow : OpenClaim := { program := "ytoiegaggekgmjaa", sum := "d4ac1f5ff691d799904ba098898c7b5a30831046587dfc683b51809a4d1bcf5a", func := "loop.example/g00201/laws.FnExactSubReal", spec := "fnExactSubReal", inPlace := ["math.Float64bits", "math.Float64frombits"], recurses := true, apart := false, narrowed := true }
def FnExactSubRealUptoSaid : Prop := fnExactSubRealUptoRow.holds Try.pinned (OpenSpec.upto fnExactSubRealSpec)

/-- 'laws.FnExactMulReal', WHERE WHAT IT READS IS OF BULK AT MOST 1048576: true; the input reads as it did. -/
def fnExactMulRealUptoRow : OpenClaim := { program := "ytoiegaggekgmjaa", sum := "d4ac1f5ff691d799904ba098898c7b5a30831046587dfc683b51809a4d1bcf5a", func := "loop.example/g00201/laws.FnExactMulReal", spec := "fnExactMulReal", inPlace := ["math.Float64bits", "math.Float64frombits"], recurses := true, apart := false, narrowed := true }
def FnExactMulRealUptoSaid : Prop := fnExactMulRealUptoRow.holds Try.pinned (OpenSpec.upto fnExactMulRealSpec)

/-- 'laws.FnExactDivReal', WHERE WHAT IT READS IS OF BULK AT MOST 1048576: true; the input reads as it did. -/
def fnExactDivRealUptoRow : OpenClaim := { program := "ytoiegaggekgmjaa", sum := "d4ac1f5ff691d799904ba098898c7b5a30831046587dfc683b51809a4d1bcf5a", func := "loop.example/g00201/laws.FnExactDivReal", spec := "fnExactDivReal", inPlace := ["math.Float64bits", "math.Float64frombits"], recurses := true, apart := false, narrowed := true }
def FnExactDivRealUptoSaid : Prop := fnExactDivRealUptoRow.holds Try.pinned (OpenSpec.upto fnExactDivRealSpec)

end Rows
end Go.Proofs.Ytoiegaggekgmjaa
