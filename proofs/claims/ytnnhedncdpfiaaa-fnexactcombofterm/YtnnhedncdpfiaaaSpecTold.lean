/-
  What lcFlat and lcTold of the model answer.
-/
import Derived.Test.YtnnhedncdpfiaaaSpecTree
import Derived.Test.YtnnhedncdpfiaaaSpecGoodT
import Derived.Test.YtnnhedncdpfiaaaImplTell
namespace Go.Proofs.Ytnnhedncdpfiaaa
open Go.RowKit BL
set_option linter.unusedVariables false

/-- The nodes of a tree behind others, as the model lays them: no more than are too many. -/
def flatC : List Nd → Lm → Int → List Nd
  | l, .var n, up => l ++ [⟨1, n, up⟩]
  | l, .lam t, up => if (l ++ [(⟨2, 0, up⟩ : Nd)]).length ≤ 150 then flatC (l ++ [⟨2, 0, up⟩]) t (l.length : Int) else l ++ [⟨2, 0, up⟩]
  | l, .app s t, up =>
    if (if (l ++ [(⟨3, 0, up⟩ : Nd)]).length ≤ 150 then flatC (l ++ [⟨3, 0, up⟩]) s (l.length : Int) else l ++ [⟨3, 0, up⟩]).length ≤ 150
    then flatC (if (l ++ [(⟨3, 0, up⟩ : Nd)]).length ≤ 150 then flatC (l ++ [⟨3, 0, up⟩]) s (l.length : Int) else l ++ [⟨3, 0, up⟩]) t (l.length : Int)
    else if (l ++ [(⟨3, 0, up⟩ : Nd)]).length ≤ 150 then flatC (l ++ [⟨3, 0, up⟩]) s (l.length : Int) else l ++ [⟨3, 0, up⟩]
/-- One part more. -/
def partC (k : Int) (l : List Nd) (s : Lm) : List Nd := if l.length ≤ 150 then flatC l s k else l
theorem flatC_kids (l : List Nd) (t : Lm) (up : Int) : flatC l t up = t.kids.foldl (partC (l.length : Int)) (l ++ [⟨t.kd, t.nm, up⟩]) := by
  cases t <;> rfl
theorem flatC_spec : ∀ (t : Lm) (l : List Nd) (up : Int), l.length ≤ 150 → (l.length + t.sz ≤ 150 → flatC l t up = l ++ t.flat l.length up) ∧ (150 < l.length + t.sz → 150 < (flatC l t up).length) ∧ (flatC l t up).length ≤ 151
  | .var n, l, up, h => by
    refine ⟨fun _ => rfl, fun h2 => ?_, ?_⟩
    · simp only [flatC, List.length_append, List.length_singleton, Lm.sz] at h2 ⊢; omega
    · simp only [flatC, List.length_append, List.length_singleton]; omega
  | .lam t, l, up, h => by
    have hl : (l ++ [(⟨2, 0, up⟩ : Nd)]).length = l.length + 1 := by simp
    have := t.sz_pos
    by_cases h1 : l.length + 1 ≤ 150
    · have ih := flatC_spec t (l ++ [⟨2, 0, up⟩]) (l.length : Int) (by omega)
      rw [hl] at ih
      have e : flatC l (.lam t) up = flatC (l ++ [⟨2, 0, up⟩]) t (l.length : Int) := by rw [flatC, if_pos (by omega)]
      rw [e]
      refine ⟨fun h2 => ?_, fun h2 => ih.2.1 (by simp only [Lm.sz] at h2; omega), ih.2.2⟩
      rw [ih.1 (by simp only [Lm.sz] at h2; omega), Lm.flat]
      simp
    · have e : flatC l (.lam t) up = l ++ [⟨2, 0, up⟩] := by rw [flatC, if_neg (by omega)]
      rw [e, hl]
      refine ⟨fun h2 => ?_, fun _ => by omega, by omega⟩
      simp only [Lm.sz] at h2; omega
  | .app s t, l, up, h => by
    have hl : (l ++ [(⟨3, 0, up⟩ : Nd)]).length = l.length + 1 := by simp
    have := s.sz_pos
    have := t.sz_pos
    by_cases h1 : l.length + 1 ≤ 150
    · have ih := flatC_spec s (l ++ [⟨3, 0, up⟩]) (l.length : Int) (by omega)
      rw [hl] at ih
      obtain ⟨m, hm⟩ : ∃ m, m = flatC (l ++ [⟨3, 0, up⟩]) s (l.length : Int) := ⟨_, rfl⟩
      have e : flatC l (.app s t) up = if m.length ≤ 150 then flatC m t (l.length : Int) else m := by rw [flatC, if_pos (show (l ++ [(⟨3, 0, up⟩ : Nd)]).length ≤ 150 by omega), ← hm]
      rw [← hm] at ih
      rw [e]
      by_cases h2 : m.length ≤ 150
      · rw [if_pos h2]
        have hfit : l.length + 1 + s.sz ≤ 150 := by
          rcases Nat.lt_or_ge 150 (l.length + 1 + s.sz) with h3 | h3
          · have := ih.2.1 h3; omega
          · omega
        have hme := ih.1 hfit
        have hml : m.length = l.length + 1 + s.sz := by rw [hme, List.length_append, hl, Lm.flat_sz]
        have ih2 := flatC_spec t m (l.length : Int) h2
        refine ⟨fun h3 => ?_, fun h3 => ih2.2.1 (by simp only [Lm.sz] at h3; omega), ih2.2.2⟩
        rw [ih2.1 (by simp only [Lm.sz] at h3; omega), Lm.flat, hml, hme]
        simp
      · rw [if_neg h2]
        refine ⟨fun h3 => ?_, fun _ => by omega, ih.2.2⟩
        exfalso
        simp only [Lm.sz] at h3
        have := ih.1 (by omega)
        rw [this, List.length_append, hl, Lm.flat_sz] at h2
        omega
    · have e : flatC l (.app s t) up = l ++ [⟨3, 0, up⟩] := by rw [flatC, if_neg (show ¬ (l ++ [(⟨3, 0, up⟩ : Nd)]).length ≤ 150 by omega), if_neg (by omega)]
      rw [e, hl]
      refine ⟨fun h2 => ?_, fun _ => by omega, by omega⟩
      simp only [Lm.sz] at h2; omega
theorem goodS_flatC (t : Lm) : goodS (flatC [] t (-1)) = t.good := by
  have h := flatC_spec t [] (-1) (by simp)
  simp only [List.length_nil, Nat.zero_add, List.nil_append] at h
  rcases Nat.lt_or_ge 150 t.sz with h1 | h1
  · have h2 := h.2.1 h1
    rw [goodS_short (by simp; omega)]
    unfold Lm.good
    rw [decide_eq_false (show ¬ t.sz ≤ 150 by omega)]; simp
  · rw [h.1 h1]; exact goodS_flat t
/-- The same as the program tells. -/
theorem flatC_told (t : Lm) (h : t.good = true) : flatC [] t (-1) = t.flat 0 (-1) := by
  have h1 := flatC_spec t [] (-1) (by simp)
  simp only [List.length_nil, Nat.zero_add, List.nil_append] at h1
  exact h1.1 (Lm.good_sz h).1
theorem partC_len {k : Int} {l : List Nd} {s : Lm} (h : l.length ≤ 151) : (partC k l s).length ≤ 151 := by
  unfold partC
  split
  · next h1 => exact (flatC_spec s l k h1).2.2
  · exact h

theorem tri_app (a b : List Nd) : tri (a ++ b) = tri a ++ tri b := by simp [tri]

end Go.Proofs.Ytnnhedncdpfiaaa
