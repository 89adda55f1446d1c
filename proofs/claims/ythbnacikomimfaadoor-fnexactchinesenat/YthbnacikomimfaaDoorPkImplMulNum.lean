/-
  The texts ImplMulNum, ImplDivNum, NumPlus, ImplSubNum, one behind the other.
-/
import Derived.Test.YthbnacikomimfaaDoorPkNumTimes
import Derived.Test.YthbnacikomimfaaDoorNumTimes2
import Derived.Test.YthbnacikomimfaaDoorNumPlus2
import Derived.Test.YthbnacikomimfaaDoorPkImplDigits
import Derived.Test.YthbnacikomimfaaDoorImplAdd
import Derived.Test.YthbnacikomimfaaDoorPkSpecAdd
import Derived.Test.YthbnacikomimfaaDoorSumTop
import Derived.Test.YthbnacikomimfaaDoorPkCutNum

/-
  What MulNum and DivNum should answer, and what impl.MulNum and impl.DivNum answer.
-/
namespace Go.Proofs.YthbnacikomimfaaDoor
open Go.RowKit
set_option linter.unusedVariables false

/-- Top and bottom of the product, of the quotient where d says so. -/
def mulTop (d : Bool) (a b : ByteArray) : Nat := topN a.data.toList * (if d then botN b.data.toList else topN b.data.toList)
def mulBot (d : Bool) (a b : ByteArray) : Nat := botN a.data.toList * (if d then topN b.data.toList else botN b.data.toList)
def mulOk (d : Bool) (a b : ByteArray) : Bool := (okN a.data.toList && okN b.data.toList) && !(d && decide (topN b.data.toList = 0))
def MulNAns (d : Bool) (a b : ByteArray) (e : Ending) : Prop :=
  (mulOk d a b = true ∧ TellsN ((negN a.data.toList != negN b.data.toList) && decide (mulTop d a b ≠ 0)) (mulTop d a b / Nat.gcd (mulTop d a b) (mulBot d a b)) (mulBot d a b / Nat.gcd (mulTop d a b) (mulBot d a b)) e) ∨ (mulOk d a b = false ∧ Mute e)
theorem MulNAns.same {d : Bool} {a b : ByteArray} {e e' : Ending} (h : MulNAns d a b e) (h' : MulNAns d a b e') : ∃ (s : ByteArray) (o : Bool), e = .returned (.tuple #[.string s, .bool o]) ∧ e' = .returned (.tuple #[.string s, .bool o]) := by
  rcases h with ⟨g1, h⟩ | ⟨g1, h⟩ <;> rcases h' with ⟨g2, h'⟩ | ⟨g2, h'⟩
  · exact h.same h'
  · rw [g1] at g2; cases g2
  · rw [g1] at g2; cases g2
  · exact h.same h'
theorem TellsN.form {g : Bool} {n m : Nat} {e : Ending} (h : TellsN g n m e) : ∃ (s : ByteArray) (o : Bool), e = .returned (.tuple #[.string s, .bool o]) := by
  obtain ⟨s, rfl, _, _⟩ := h
  exact ⟨s, _, rfl⟩

end Go.Proofs.YthbnacikomimfaaDoor

/-
  What impl.DivNum answers.
-/
namespace Go.Proofs.YthbnacikomimfaaDoor
open Go.RowKit
set_option linter.unusedVariables false

theorem load_whole_w {ops : Array Oper} {rest : List Oper} {o : Oper} {a : Act} {w : World} {Q : Exit → Act → World → Prop} (hw : Region.wanted o (yielded ops a.tmps) = true) (x : Operand) (ho : o.op = .load 69 x)
    (b off : Nat) (hx : a.eval x = .pointer (some ⟨b, off, none⟩)) (g : Bool) (u : Int) (p : List Int) (hr : w.rangeAt b off (Value.bool g :: natL u p)) (hl : p.length = 204)
    (h : wpList Tryd.prog ops Q rest (a.put o.dst (.agg (wholeC g u p))) w) : wpList Tryd.prog ops Q (o :: rest) a w :=
  wpList_step fun K hK => by rw [if_pos hw]; exact wp_load_mid 69 x ho b off hx (Value.bool g :: natL u p) _ hr Tryd.underlying69 rfl (by rw [whole_info g u p hl]; simp [wholeC]) (hK _ _ h)

theorem sgn_zero {g : Bool} {k : Nat} : (sgn g k == 0) = decide (k = 0) := by
  unfold sgn
  by_cases h : k = 0
  · rw [if_pos h, decide_eq_true h]; rfl
  · rw [if_neg h, decide_eq_false h]; cases g <;> rfl

end Go.Proofs.YthbnacikomimfaaDoor

/-
  What AddNum and SubNum should answer, and what impl.AddNum answers.
-/
namespace Go.Proofs.YthbnacikomimfaaDoor
open Go.RowKit
set_option linter.unusedVariables false

def AddNAns (less : Bool) (a b : ByteArray) (e : Ending) : Prop :=
  ((okN a.data.toList && okN b.data.toList) = true ∧ TellsN (decide (addZ less a b < 0)) ((addZ less a b).natAbs / Nat.gcd (addZ less a b).natAbs (addBot a b)) (addBot a b / Nat.gcd (addZ less a b).natAbs (addBot a b)) e) ∨ ((okN a.data.toList && okN b.data.toList) = false ∧ Mute e)
theorem AddNAns.same {d : Bool} {a b : ByteArray} {e e' : Ending} (h : AddNAns d a b e) (h' : AddNAns d a b e') : ∃ (s : ByteArray) (o : Bool), e = .returned (.tuple #[.string s, .bool o]) ∧ e' = .returned (.tuple #[.string s, .bool o]) := by
  rcases h with ⟨g1, h⟩ | ⟨g1, h⟩ <;> rcases h' with ⟨g2, h'⟩ | ⟨g2, h'⟩
  · exact h.same h'
  · rw [g1] at g2; cases g2
  · rw [g1] at g2; cases g2
  · exact h.same h'
end Go.Proofs.YthbnacikomimfaaDoor

/-
  What impl.SubNum answers.
-/
namespace Go.Proofs.YthbnacikomimfaaDoor
open Go.RowKit
set_option linter.unusedVariables false

end Go.Proofs.YthbnacikomimfaaDoor
