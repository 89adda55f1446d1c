/-
  The texts Fraction, IsOne, HeldMid, one behind the other.
-/
import Derived.Test.YtpphkdgjojnfeaaDoorWhole
import Derived.Test.YtpphkdgjojnfeaaDoorPkDivideA

/-
  What wholeOf and fraction of impl answer.
-/
namespace Go.Proofs.YtpphkdgjojnfeaaDoor
open Go.RowKit
set_option linter.unusedVariables false

end Go.Proofs.YtpphkdgjojnfeaaDoor

/-
  What isOne of impl's nats and isWhole of its fractions answer.
-/
namespace Go.Proofs.YtpphkdgjojnfeaaDoor
open Go.RowKit
set_option linter.unusedVariables false

end Go.Proofs.YtpphkdgjojnfeaaDoor

/-
  Drawn regions that read a nat or a whole number within a row.
-/
namespace Go.Proofs.YtpphkdgjojnfeaaDoor
open Go.RowKit
set_option linter.unusedVariables false

/-- An operation of whatever kind that gives its value wherever S holds, ahead of all else. -/
theorem held_valS {ops : Array Oper} {Q : Exit → Act → World → Prop} {md : Region.Mode} {S : World → Prop} {o : Oper} {fuel : Nat} {listed : Array Bool} {a : Act} {w : World} (i : Nat) (d : Option Tmp) (hi : ops[i]? = some o) (hd : o.dst = d) (hs : Region.noSelect ops = true) (hf : Region.free md ops listed i = true) (hr : (Region.ready md ops listed).contains i = true)
    (hQ : ∀ c a d v w, Q (.panic c) (Act.put a d v) w → Q (.panic c) a w) (hw : Region.wanted o (yielded ops a.tmps) = true) (v : Value) (hv : ∀ w, S w → (execOp a.eval o).run Tryd.prog w = .ok (.value v) w) (hS : S w)
    (h : wpAnyH Tryd.prog md ops Q S fuel (listed.setIfInBounds i true) (a.put d v) w) : wpAnyH Tryd.prog md ops Q S (fuel + 1) listed a w := by
  subst hd
  exact wpAnyH_take hi hs hf hr (fun c a w => hQ c a _ _ w) (.inl ⟨hw, fun w hw' => hv w hw'⟩) hS h
end Go.Proofs.YtpphkdgjojnfeaaDoor
