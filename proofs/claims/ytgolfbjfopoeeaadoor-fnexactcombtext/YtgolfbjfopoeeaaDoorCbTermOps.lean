/-
  What is done to terms: texts, free variables, shifting, putting in, redexes, reducing (plain).
-/
import Derived.Test.YtgolfbjfopoeeaaDoorCombMath
namespace Go.Proofs.YtgolfbjfopoeeaaDoor.CB
set_option linter.unusedVariables false

/-- A place that a walk comes by: its number, that of the node around it, how many lambdas are around, and what stands there. -/
structure Spot where
  at_ : Nat
  up : Int
  lam : Nat
  t : Lm
def Lm.walk : Lm → Nat → Int → Nat → List Spot
  | .var n, a, u, m => [⟨a, u, m, .var n⟩]
  | .app s t, a, u, m => ⟨a, u, m, .app s t⟩ :: (s.walk (a + 1) a m ++ t.walk (a + 1 + s.sz) a m)
def Spot.nd (x : Spot) : Nd := ⟨x.t.kd, x.t.nm, x.up⟩
theorem Lm.walk_flat : ∀ (t : Lm) (a : Nat) (u : Int) (m : Nat), (t.walk a u m).map Spot.nd = t.flat a u
  | .var n, a, u, m => rfl
  | .app s t, a, u, m => by rw [Lm.walk, List.map_cons, List.map_append, Lm.walk_flat s, Lm.walk_flat t, Lm.flat]; rfl
theorem Lm.walk_len (t : Lm) (a : Nat) (u : Int) (m : Nat) : (t.walk a u m).length = t.sz := by
  have := congrArg List.length (t.walk_flat a u m)
  rwa [List.length_map, Lm.flat_sz] at this
/-- The parts' sizes and depths are no more than the whole one's. -/
theorem Lm.walk_sub : ∀ (t : Lm) (a : Nat) (u : Int) (m : Nat) (x : Spot), x ∈ t.walk a u m → x.t.sz ≤ t.sz ∧ x.t.dp ≤ t.dp ∧ a ≤ x.at_ ∧ x.at_ < a + t.sz ∧ x.lam + x.t.dp ≤ m + t.dp
  | .var n, a, u, m, x, h => by
    simp only [Lm.walk, List.mem_singleton] at h
    subst h
    simp only [Lm.sz, Lm.dp]; omega
  | .app s t, a, u, m, x, h => by
    rw [Lm.walk] at h
    rcases List.mem_cons.1 h with rfl | h
    · simp only [Lm.sz, Lm.dp]; omega
    · rcases List.mem_append.1 h with h | h
      · have := Lm.walk_sub s _ _ _ x h
        simp only [Lm.sz, Lm.dp]; omega
      · have := Lm.walk_sub t _ _ _ x h
        simp only [Lm.sz, Lm.dp]; omega
theorem Lm.walk_ok : ∀ (t : Lm) (a : Nat) (u : Int) (m : Nat), t.ok = (t.walk a u m).all fun x => match x.t with | .var n => n.ok | _ => true
  | .var n, a, u, m => by simp [Lm.walk, Lm.ok]
  | .app s t, a, u, m => by rw [Lm.walk, List.all_cons, List.all_append, ← Lm.walk_ok s, ← Lm.walk_ok t]; simp [Lm.ok]

theorem Lm.walk_ats : ∀ (t : Lm) (a : Nat) (u : Int) (m : Nat), (t.walk a u m).map Spot.at_ = List.range' a t.sz
  | .var n, a, u, m => rfl
  | .app s t, a, u, m => by
    rw [Lm.walk, List.map_cons, List.map_append, Lm.walk_ats s, Lm.walk_ats t, Lm.sz, List.range'_succ]
    congr 1
    rw [← List.range'_append (s := a + 1) (m := s.sz) (n := t.sz) (step := 1)]
    simp
theorem Lm.good_sz {t : Lm} (h : t.good = true) : t.sz ≤ 200 ∧ t.dp ≤ 60 ∧ t.ok = true := by
  unfold Lm.good at h
  simp only [Bool.and_eq_true, decide_eq_true_eq] at h
  exact ⟨h.2.1, h.2.2, h.1⟩
end Go.Proofs.YtgolfbjfopoeeaaDoor.CB
