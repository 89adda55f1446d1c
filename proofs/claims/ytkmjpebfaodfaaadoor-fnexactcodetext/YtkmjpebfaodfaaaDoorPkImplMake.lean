/-
  The texts ImplMake, SpecMake, ImplDiv, ImplGcdNat, ImplSub, ImplToRadix, SpecDivNat, one behind the other.
-/
import Derived.Test.YtkmjpebfaodfaaaDoorPkImplDigits
import Derived.Test.YtkmjpebfaodfaaaDoorPkHeld
import Derived.Test.YtkmjpebfaodfaaaDoorImplAdd
import Derived.Test.YtkmjpebfaodfaaaDoorPkSpecAdd
import Derived.Test.YtkmjpebfaodfaaaDoorPkSpecSub
import Derived.Test.YtkmjpebfaodfaaaDoorPkDivideA
import Derived.Test.YtkmjpebfaodfaaaDoorText
import Derived.OwnWalk

/-
  What impl.MakeNum answers.
-/
namespace Go.Proofs.YtkmjpebfaodfaaaDoor
open Go.RowKit
set_option linter.unusedVariables false

/-- What MakeNum should answer. -/
def makeOk (a b : ByteArray) : Bool := (goodB a.data.toList && goodB b.data.toList) && decide (dval b.data.toList ≠ 0)
def MakeAns (g : Bool) (a b : ByteArray) (e : Ending) : Prop :=
  (makeOk a b = true ∧ TellsN (g && decide (dval a.data.toList ≠ 0)) (dval a.data.toList / Nat.gcd (dval a.data.toList) (dval b.data.toList)) (dval b.data.toList / Nat.gcd (dval a.data.toList) (dval b.data.toList)) e) ∨ (makeOk a b = false ∧ Mute e)
theorem MakeAns.same {g : Bool} {a b : ByteArray} {e e' : Ending} (h : MakeAns g a b e) (h' : MakeAns g a b e') : ∃ (s : ByteArray) (o : Bool), e = .returned (.tuple #[.string s, .bool o]) ∧ e' = .returned (.tuple #[.string s, .bool o]) := by
  rcases h with ⟨g1, h⟩ | ⟨g1, h⟩ <;> rcases h' with ⟨g2, h'⟩ | ⟨g2, h'⟩
  · exact h.same h'
  · rw [g1] at g2; cases g2
  · rw [g1] at g2; cases g2
  · exact h.same h'

end Go.Proofs.YtkmjpebfaodfaaaDoor

/-
  What spec.l2Make and spec.MakeNum answer.
-/
namespace Go.Proofs.YtkmjpebfaodfaaaDoor
open Go.RowKit
set_option linter.unusedVariables false

theorem one_lt (k : Nat) (hk : k ≠ 0) : 1 < 10 ^ k := Nat.one_lt_pow hk (by decide)

theorem make_tells {g : Bool} {a b t u s : ByteArray} {G : Nat} (h0 : dval a.data.toList ≠ 0) (hC : canonB t.data.toList = true ∧ dval t.data.toList = dval a.data.toList / G ∧ canonB u.data.toList = true ∧ dval u.data.toList = dval b.data.toList / G) (h1 : t.size ≤ 600) (h2 : u.size ≤ 600)
    (h : s.data.toList = (if g then [45] else []) ++ t.data.toList ++ (if dval b.data.toList / G = 1 then [] else 47 :: u.data.toList)) : TellsN (g && decide (dval a.data.toList ≠ 0)) (dval a.data.toList / G) (dval b.data.toList / G) (.returned (.tuple #[.string s, .bool true])) := by
  rw [decide_eq_true h0, Bool.and_true]
  refine TellsN.yes ?_ ?_ ⟨t, u, InRad.dec hC.1 hC.2.1, InRad.dec hC.2.2.1 hC.2.2.2, h⟩
  · rw [← hC.2.1]; exact (canon_len_le hC.1 600 (by omega)).1 (by simpa using h1)
  · rw [← hC.2.2.2]; exact (canon_len_le hC.2.2.1 600 (by omega)).1 (by simpa using h2)

end Go.Proofs.YtkmjpebfaodfaaaDoor

/-
  What impl.DivNat answers.
-/
namespace Go.Proofs.YtkmjpebfaodfaaaDoor
open Go.RowKit
set_option linter.unusedVariables false

/-- It tells two numbers. -/
def Tells2 (n m : Nat) (e : Ending) : Prop := ∃ s t : ByteArray, e = .returned (.tuple #[.string s, .string t, .bool true]) ∧ canonB s.data.toList = true ∧ dval s.data.toList = n ∧ canonB t.data.toList = true ∧ dval t.data.toList = m
def Mute2 (e : Ending) : Prop := e = .returned (.tuple #[.string ⟨#[]⟩, .string ⟨#[]⟩, .bool false])
def Ans2 (g : Bool) (n m : Nat) (e : Ending) : Prop := (g = true ∧ Tells2 n m e) ∨ (g = false ∧ Mute2 e)
theorem Ans2.same {g : Bool} {n m : Nat} {e e' : Ending} (h : Ans2 g n m e) (h' : Ans2 g n m e') : ∃ (s t : ByteArray) (o : Bool), e = .returned (.tuple #[.string s, .string t, .bool o]) ∧ e' = .returned (.tuple #[.string s, .string t, .bool o]) := by
  rcases h with ⟨g1, h⟩ | ⟨g1, h⟩ <;> rcases h' with ⟨g2, h'⟩ | ⟨g2, h'⟩
  · obtain ⟨s, t, rfl, c1, v1, c2, v2⟩ := h
    obtain ⟨s', t', rfl, c1', v1', c2', v2'⟩ := h'
    obtain rfl : s = s' := Go.WideShapes.bytes_inj (canon_inj c1 c1' (by rw [v1, v1']))
    obtain rfl : t = t' := Go.WideShapes.bytes_inj (canon_inj c2 c2' (by rw [v2, v2']))
    exact ⟨s, t, true, rfl, rfl⟩
  · rw [g1] at g2; cases g2
  · rw [g1] at g2; cases g2
  · exact ⟨_, _, _, h, h'⟩

/-- May a be divided by b? -/
def divOk (a b : ByteArray) : Bool := (goodB a.data.toList && goodB b.data.toList) && decide (dval b.data.toList ≠ 0)

end Go.Proofs.YtkmjpebfaodfaaaDoor

/-
  What impl.GcdNat answers.
-/
namespace Go.Proofs.YtkmjpebfaodfaaaDoor
open Go.RowKit
set_option linter.unusedVariables false

end Go.Proofs.YtkmjpebfaodfaaaDoor

/-
  What impl.SubNat answers.
-/
namespace Go.Proofs.YtkmjpebfaodfaaaDoor
open Go.RowKit
set_option linter.unusedVariables false

end Go.Proofs.YtkmjpebfaodfaaaDoor

/-
  What impl.ToRadix and spec.ToRadix answer.
-/
namespace Go.Proofs.YtkmjpebfaodfaaaDoor
open Go.RowKit
set_option linter.unusedVariables false

/-- What ToRadix should answer. -/
def AnsR (a : ByteArray) (r : Int) (e : Ending) : Prop :=
  ((goodB a.data.toList && radOk r) = true ∧ ∃ s : ByteArray, e = .returned (.tuple #[.string s, .bool true]) ∧ InRad r.toNat (dval a.data.toList) s) ∨ ((goodB a.data.toList && radOk r) = false ∧ Mute e)

theorem AnsR.same {a : ByteArray} {r : Int} {e e' : Ending} (h : AnsR a r e) (h' : AnsR a r e') : ∃ (s : ByteArray) (o : Bool), e = .returned (.tuple #[.string s, .bool o]) ∧ e' = .returned (.tuple #[.string s, .bool o]) := by
  rcases h with ⟨g1, s, rfl, h⟩ | ⟨g1, h⟩ <;> rcases h' with ⟨g2, t, rfl, h'⟩ | ⟨g2, h'⟩
  · obtain rfl := h.inj h'
    exact ⟨s, true, rfl, rfl⟩
  · rw [g1] at g2; cases g2
  · rw [g1] at g2; cases g2
  · exact h.same h'

theorem rad_nat' {r : Int} (h : radOk r = true) : r = (r.toNat : Int) ∧ 2 ≤ r ∧ r ≤ 16 := by
  have := (radOk_iff r).1 h
  exact ⟨by omega, by omega, by omega⟩

end Go.Proofs.YtkmjpebfaodfaaaDoor

/-
  What spec.DivNat answers.
-/
namespace Go.Proofs.YtkmjpebfaodfaaaDoor
open Go.RowKit
set_option linter.unusedVariables false

end Go.Proofs.YtkmjpebfaodfaaaDoor
