/-
  Written heaps as answers, in memory of their own.
-/
import Derived.Test.YtoaancgmahdbnaaYgHelp
import Derived.Test.YtoaancgmahdbnaaHeapMark
namespace Go.Proofs.Ytoaancgmahdbnaa
open Go.RowKit
set_option linter.unusedVariables false

/-- An answer's memory. -/
def YgO (W : World) (B : Nat) (v1 v2 v3 : Value) (m : Yg) : Prop :=
  ((OwnR W B v1 59 cellL 4 m.h.cells ∧ OwnR W B v2 3 intL 1 m.h.roots) ∧ OwnR W B v3 3 intL 1 m.noted) ∧ ∀ g, v2.ownBlock = some g → v3.ownBlock ≠ some g
theorem YgO.below {W W' : World} {B : Nat} {v1 v2 v3 : Value} {m : Yg} (h : YgO W B v1 v2 v3 m) (hB : Below W.heap.size W W') : YgO W' B v1 v2 v3 m :=
  ⟨⟨⟨OwnR.below (l := m.h.cells) h.1.1.1 hB (Nat.le_refl _), OwnR.below (l := m.h.roots) h.1.1.2 hB (Nat.le_refl _)⟩, OwnR.below (l := m.noted) h.1.2 hB (Nat.le_refl _)⟩, h.2⟩
theorem YgO.rd {W : World} {B : Nat} {v1 v2 v3 : Value} {m : Yg} (h : YgO W B v1 v2 v3 m) : YgRd W v1 v2 v3 m :=
  ⟨⟨OwnR.inR (l := m.h.cells) h.1.1.1 cellL_len, OwnR.inR (l := m.h.roots) h.1.1.2 intL_len⟩, OwnR.inR (l := m.noted) h.1.2 intL_len⟩
theorem YgO.base {W : World} {B B' : Nat} {v1 v2 v3 : Value} {m : Yg} (h : YgO W B v1 v2 v3 m) (hB : B' ≤ B) : YgO W B' v1 v2 v3 m :=
  ⟨⟨⟨own_baseX h.1.1.1 hB, own_baseX h.1.1.2 hB⟩, own_baseX h.1.2 hB⟩, h.2⟩
theorem YgO.lt {W : World} {B : Nat} {v1 v2 v3 : Value} {m : Yg} (h : YgO W B v1 v2 v3 m) : ∀ g, (some g = v1.ownBlock ∨ some g = v2.ownBlock ∨ some g = v3.ownBlock) → B ≤ g ∧ g < W.heap.size := fun g hg => by
  rcases hg with e | e | e
  · exact h.1.1.1.lt g e.symm
  · exact h.1.1.2.lt g e.symm
  · exact h.1.2.lt g e.symm
theorem YgO.form {W : World} {B : Nat} {v1 v2 v3 : Value} {m : Yg} (h : YgO W B v1 v2 v3 m) : ∃ p1 q1 p2 q2 p3 q3, v1 = .slice p1 m.h.cells.length q1 ∧ v2 = .slice p2 m.h.roots.length q2 ∧ v3 = .slice p3 m.noted.length q3 := by
  obtain ⟨p1, q1, e1⟩ := own_formX h.1.1.1
  obtain ⟨p2, q2, e2⟩ := own_formX h.1.1.2
  obtain ⟨p3, q3, e3⟩ := own_formX h.1.2
  exact ⟨p1, q1, p2, q2, p3, q3, e1, e2, e3⟩
theorem YgO.three {W W' : World} {B : Nat} {v1 v2 v3 : Value} {r1 r2 r3 : Option Nat} {m : Yg} (h : YgO W B v1 v2 v3 m) (hT : OnlyThree W W' r1 r2 r3) (hne : ∀ g, B ≤ g → g < W.heap.size → (some g = v1.ownBlock ∨ some g = v2.ownBlock ∨ some g = v3.ownBlock) → some g ≠ r1 ∧ some g ≠ r2 ∧ some g ≠ r3) : YgO W' B v1 v2 v3 m :=
  ⟨⟨⟨hT.own h.1.1.1 (fun g e => hne g (h.1.1.1.lt g e).1 (h.1.1.1.lt g e).2 (.inl e.symm)), hT.own h.1.1.2 (fun g e => hne g (h.1.1.2.lt g e).1 (h.1.1.2.lt g e).2 (.inr (.inl e.symm)))⟩, hT.own h.1.2 (fun g e => hne g (h.1.2.lt g e).1 (h.1.2.lt g e).2 (.inr (.inr e.symm)))⟩, h.2⟩
theorem YgO.kept {W W' : World} {B b : Nat} {v1 v2 v3 : Value} {m : Yg} (h : YgO W B v1 v2 v3 m) (hg : W.grownBy W' (some b)) (hb : b < B) : YgO W' B v1 v2 v3 m :=
  ⟨⟨⟨h.1.1.1.kept hg (.inr (fun e => by have := (h.1.1.1.lt _ e).1; omega)), h.1.1.2.kept hg (.inr (fun e => by have := (h.1.1.2.lt _ e).1; omega))⟩, h.1.2.kept hg (.inr (fun e => by have := (h.1.2.lt _ e).1; omega))⟩, h.2⟩
theorem YgO.nil (W : World) (B : Nat) (k : Int) : YgO W B (.slice none 0 0) (.slice none 0 0) (.slice none 0 0) ⟨⟨k, [], []⟩, []⟩ :=
  ⟨⟨⟨World.ownsRow_nil _ _ _ _, World.ownsRow_nil _ _ _ _⟩, World.ownsRow_nil _ _ _ _⟩, fun g e => by cases e⟩
/-- What is answered: a heap and whether it went. -/
def YgAns (m1 : Yg) (ok : Bool) (w : World) (e : Ending) (w' : World) : Prop :=
  (∃ v1 v2 v3, e = .returned (.tuple #[.agg #[.int .i64 m1.h.old, v1, v2, v3], .bool ok]) ∧ YgO w' w.heap.size v1 v2 v3 m1) ∧ Below w.heap.size w w'
end Go.Proofs.Ytoaancgmahdbnaa
