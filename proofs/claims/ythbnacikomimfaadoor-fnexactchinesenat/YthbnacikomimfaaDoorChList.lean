/-
  The Chinese remainders, one after another: plain facts for the program's loop.
-/
import Derived.Test.YthbnacikomimfaaDoorChMath
namespace Go.Proofs.YthbnacikomimfaaDoor
set_option linter.unusedVariables false

/-- There is an answer that is short enough. -/
def ChOk (T : Nat) (l : List (Nat × Nat)) : Prop := (∀ p ∈ l, p.2 ≠ 0) ∧ (mods l).Pairwise Nat.Coprime ∧ prodL (mods l) < T
/-- The class of the rests so far. -/
def ChSt (a : List (Nat × Nat)) (c M : Nat) : Prop := M = prodL (mods a) ∧ c < M ∧ Leaves a c ∧ (∀ p ∈ a, p.2 ≠ 0) ∧ (mods a).Pairwise Nat.Coprime
theorem ChSt.start : ChSt [] 0 1 := ⟨rfl, Nat.one_pos, fun p hp => (by cases hp), fun p hp => (by cases hp), List.Pairwise.nil⟩
theorem ChSt.step {a : List (Nat × Nat)} {p : Nat × Nat} {c M K : Nat} (h : ChSt a c M) (hm : p.2 ≠ 0) (hg : Nat.gcd M p.2 = 1) (hK : (K : Int) = (((p.1 : Int) - (c : Int)) * (bz p.2 M 1 0 0 1).2.1) % (p.2 : Int)) : ChSt (a ++ [p]) (c + M * K) (M * p.2) := by
  obtain ⟨h1, h2, h3, h4, h5⟩ := h
  have he := (bz_eq M p.2).1
  rw [hg] at he
  obtain ⟨j1, j2, j3⟩ := ch_join h2 (Nat.pos_of_ne_zero hm) he.symm hK
  have hmods : mods (a ++ [p]) = mods a ++ [p.2] := mods_append a [p]
  refine ⟨?_, j1, fun q hq => ?_, fun q hq => ?_, ?_⟩
  · rw [hmods, prodL_append, ← h1]
    simp [prodL]
  · rcases List.mem_append.1 hq with hq | hq
    · rw [j3 q.2 (by rw [h1]; exact prodL_dvd (List.mem_map.2 ⟨q, hq, rfl⟩))]
      exact h3 q hq
    · rw [List.mem_singleton] at hq
      subst hq
      exact j2
  · rcases List.mem_append.1 hq with hq | hq
    · exact h4 q hq
    · rw [List.mem_singleton] at hq
      subst hq
      exact hm
  · rw [hmods, List.pairwise_append]
    refine ⟨h5, List.pairwise_singleton _ _, fun x hx y hy => ?_⟩
    rw [List.mem_singleton] at hy
    subst hy
    rw [h1] at hg
    exact Nat.Coprime.symm (cop_prod.1 (Nat.Coprime.symm hg) x hx)
theorem ch_fail {T M : Nat} {a b : List (Nat × Nat)} {p : Nat × Nat} (hM : M = prodL (mods a)) (h : p.2 = 0 ∨ ¬ M * p.2 < T ∨ ¬ Nat.gcd M p.2 = 1) : ¬ ChOk T (a ++ p :: b) := by
  rintro ⟨h1, h2, h3⟩
  rcases h with h | h | h
  · exact h1 p (by simp) h
  · refine h (Nat.lt_of_le_of_lt ?_ h3)
    rw [prod_split, hM, Nat.mul_comm (prodL (mods a))]
    have hb : 0 < prodL (mods b) := prodL_pos fun x hx => by
      obtain ⟨q, hq, rfl⟩ := List.mem_map.1 hx
      exact Nat.pos_of_ne_zero (h1 q (by simp [hq]))
    exact Nat.mul_le_mul_left _ (Nat.le_mul_of_pos_right _ hb)
  · refine h ?_
    have h2' := h2
    rw [mods_append, List.pairwise_append] at h2'
    rw [hM]
    exact Nat.Coprime.symm (cop_prod.2 fun o ho => Nat.Coprime.symm (h2'.2.2 o ho p.2 (List.mem_cons_self ..)))
theorem ChSt.ok {T : Nat} {a : List (Nat × Nat)} {c M : Nat} (h : ChSt a c M) (hT : M < T) : ChOk T a := ⟨h.2.2.2.1, h.2.2.2.2, by rw [← h.1]; exact hT⟩
/-- The answer of the program and the one of the model are one. -/
theorem ChSt.one {a : List (Nat × Nat)} {c M x : Nat} (h : ChSt a c M) (hx : Leaves a x) (hl : x < prodL (mods a)) : x = c := leaves_one h.2.2.2.2 hx h.2.2.1 hl (by rw [← h.1]; exact h.2.1)
end Go.Proofs.YthbnacikomimfaaDoor
