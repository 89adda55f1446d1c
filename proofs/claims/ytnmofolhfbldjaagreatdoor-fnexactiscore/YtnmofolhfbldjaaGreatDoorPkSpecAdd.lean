/-
  The texts SpecAdd, Ans, one behind the other.
-/
import Derived.Test.YtnmofolhfbldjaaGreatDoorPkSpecText
import Derived.Test.YtnmofolhfbldjaaGreatDoorPkRead
import Derived.WideShapes

/-
  What spec.l1Add and spec.AddNat answer.
-/
namespace Go.Proofs.YtnmofolhfbldjaaGreatDoor
open Go.RowKit
set_option linter.unusedVariables false

theorem canon_sz {a : ByteArray} (h : canonB a.data.toList = true) : 0 < a.size := by
  have := canon_pos h
  have e : a.data.toList.length = a.size := by simp
  omega

theorem limb_bd {l : List Int} (bd : ∀ x ∈ l, 0 ≤ x ∧ x < 10000) (i : Nat) : 0 ≤ l.getD i 0 ∧ l.getD i 0 < 10000 := getD_bd bd i

/-- What a function on natural numbers' texts that answers a number tells: n's text, where it has at most 600 digits. -/
def Tells (n : Nat) (e : Ending) : Prop := ∃ s : ByteArray, e = .returned (.tuple #[.string s, .bool (decide (n < 10 ^ 600))]) ∧ (n < 10 ^ 600 → canonB s.data.toList = true ∧ dval s.data.toList = n) ∧ (¬ n < 10 ^ 600 → s = ⟨#[]⟩)
/-- It tells nothing. -/
def Mute (e : Ending) : Prop := e = .returned (.tuple #[.string ⟨#[]⟩, .bool false])

theorem known_tells {s : ByteArray} {n : Nat} (hc : canonB s.data.toList = true) (hv : dval s.data.toList = n) :
    Tells n (if s.size ≤ 600 then .returned (.tuple #[.string s, .bool true]) else .returned (.tuple #[.string ⟨#[]⟩, .bool false])) := by
  have h := canon_len_le hc 600 (by omega)
  have e : s.data.toList.length = s.size := by simp
  rw [e, hv] at h
  by_cases hs : s.size ≤ 600
  · have hn := h.1 hs
    rw [if_pos hs]
    exact ⟨s, by rw [decide_eq_true hn], fun _ => ⟨hc, hv⟩, fun h' => absurd hn h'⟩
  · have hn : ¬ n < 10 ^ 600 := fun h' => hs (h.2 h')
    rw [if_neg hs]
    exact ⟨⟨#[]⟩, by rw [decide_eq_false hn], fun h' => absurd h' hn, fun _ => rfl⟩

theorem canon_size {s : ByteArray} {n k : Nat} (hk : 1 ≤ k) (hc : canonB s.data.toList = true) (hv : dval s.data.toList = n) (hn : n < 10 ^ k) : s.size ≤ k := by
  have h := (canon_len_le hc k hk).2 (by rw [hv]; exact hn)
  simpa using h

theorem add_lt_pow (k : Nat) {a b : Nat} (ha : a < 10 ^ k) (hb : b < 10 ^ k) : a + b < 10 ^ (k + 1) := by rw [Nat.pow_succ]; omega
theorem good_lt {l : List UInt8} (h : goodB l = true) : dval l < 10 ^ 600 := (canon_len_le (good_canon h) 600 (by omega)).1 (good_len h)

/-- What AddNat should answer. -/
def AddAns (a b : ByteArray) (e : Ending) : Prop := ((goodB a.data.toList && goodB b.data.toList) = true ∧ Tells (dval a.data.toList + dval b.data.toList) e) ∨ ((goodB a.data.toList && goodB b.data.toList) = false ∧ Mute e)

end Go.Proofs.YtnmofolhfbldjaaGreatDoor

/-
  Two answers that tell the same number are the same.
-/
namespace Go.Proofs.YtnmofolhfbldjaaGreatDoor
open Go.RowKit
set_option linter.unusedVariables false

theorem Tells.same {n : Nat} {e e' : Ending} (h : Tells n e) (h' : Tells n e') : ∃ (s : ByteArray) (o : Bool), e = .returned (.tuple #[.string s, .bool o]) ∧ e' = .returned (.tuple #[.string s, .bool o]) := by
  obtain ⟨s, rfl, h1, h2⟩ := h
  obtain ⟨s', rfl, h1', h2'⟩ := h'
  have : s = s' := by
    by_cases hn : n < 10 ^ 600
    · obtain ⟨c1, v1⟩ := h1 hn
      obtain ⟨c2, v2⟩ := h1' hn
      exact Go.WideShapes.bytes_inj (canon_inj c1 c2 (by rw [v1, v2]))
    · rw [h2 hn, h2' hn]
  subst this
  exact ⟨s, _, rfl, rfl⟩
theorem Mute.same {e e' : Ending} (h : Mute e) (h' : Mute e') : ∃ (s : ByteArray) (o : Bool), e = .returned (.tuple #[.string s, .bool o]) ∧ e' = .returned (.tuple #[.string s, .bool o]) :=
  ⟨⟨#[]⟩, false, h, h'⟩

/-- What a function of two numbers' texts should answer: what n says of the numbers. -/
def Ans (g : Bool) (n : Nat) (e : Ending) : Prop := (g = true ∧ Tells n e) ∨ (g = false ∧ Mute e)
theorem Ans.same {g : Bool} {n : Nat} {e e' : Ending} (h : Ans g n e) (h' : Ans g n e') : ∃ (s : ByteArray) (o : Bool), e = .returned (.tuple #[.string s, .bool o]) ∧ e' = .returned (.tuple #[.string s, .bool o]) := by
  rcases h with ⟨g1, h⟩ | ⟨g1, h⟩ <;> rcases h' with ⟨g2, h'⟩ | ⟨g2, h'⟩
  · exact h.same h'
  · rw [g1] at g2; cases g2
  · rw [g1] at g2; cases g2
  · exact h.same h'
theorem AddAns.same {a b : ByteArray} {e e' : Ending} (h : AddAns a b e) (h' : AddAns a b e') : ∃ (s : ByteArray) (o : Bool), e = .returned (.tuple #[.string s, .bool o]) ∧ e' = .returned (.tuple #[.string s, .bool o]) :=
  Ans.same (g := goodB a.data.toList && goodB b.data.toList) (n := dval a.data.toList + dval b.data.toList) h h'
end Go.Proofs.YtnmofolhfbldjaaGreatDoor
