/-
  Two answers that tell the same number are the same.
-/
import Derived.Test.YtjgpjafndaikcaaDoorSpecAdd
import Derived.WideShapes
namespace Go.Proofs.YtjgpjafndaikcaaDoor
open Go.RowKit
set_option linter.unusedVariables false

theorem Tells.same {n : Nat} {e e' : Ending} (h : Tells n e) (h' : Tells n e') : ∃ (s : ByteArray) (o : Bool), e = .returned (.tuple #[.string s, .bool o]) ∧ e' = .returned (.tuple #[.string s, .bool o]) := by
  obtain ⟨s, rfl, h1, h2⟩ := h
  obtain ⟨s', rfl, h1', h2'⟩ := h'
  have : s = s' := by
    by_cases hn : n < 10 ^ 600
    · obtain ⟨c1, v1⟩ := h1 hn
      obtain ⟨c2, v2⟩ := h1' hn
      exact Go.WideShapes.bytes_inj (canon_inj c1 c2 (by rw [v1, v2]))
    · rw [h2 hn, h2' hn]
  subst this
  exact ⟨s, _, rfl, rfl⟩
theorem Mute.same {e e' : Ending} (h : Mute e) (h' : Mute e') : ∃ (s : ByteArray) (o : Bool), e = .returned (.tuple #[.string s, .bool o]) ∧ e' = .returned (.tuple #[.string s, .bool o]) :=
  ⟨⟨#[]⟩, false, h, h'⟩

/-- What a function of two numbers' texts should answer: what n says of the numbers. -/
def Ans (g : Bool) (n : Nat) (e : Ending) : Prop := (g = true ∧ Tells n e) ∨ (g = false ∧ Mute e)
theorem Ans.same {g : Bool} {n : Nat} {e e' : Ending} (h : Ans g n e) (h' : Ans g n e') : ∃ (s : ByteArray) (o : Bool), e = .returned (.tuple #[.string s, .bool o]) ∧ e' = .returned (.tuple #[.string s, .bool o]) := by
  rcases h with ⟨g1, h⟩ | ⟨g1, h⟩ <;> rcases h' with ⟨g2, h'⟩ | ⟨g2, h'⟩
  · exact h.same h'
  · rw [g1] at g2; cases g2
  · rw [g1] at g2; cases g2
  · exact h.same h'
theorem AddAns.same {a b : ByteArray} {e e' : Ending} (h : AddAns a b e) (h' : AddAns a b e') : ∃ (s : ByteArray) (o : Bool), e = .returned (.tuple #[.string s, .bool o]) ∧ e' = .returned (.tuple #[.string s, .bool o]) :=
  Ans.same (g := goodB a.data.toList && goodB b.data.toList) (n := dval a.data.toList + dval b.data.toList) h h'
end Go.Proofs.YtjgpjafndaikcaaDoor
