/-
  What isOne of impl's nats answers.
-/
import Derived.Test.YtjgpjafndaikcaaDoorWhole
import Derived.Test.YtjgpjafndaikcaaDoorImplGcd
namespace Go.Proofs.YtjgpjafndaikcaaDoor
open Go.RowKit
set_option linter.unusedVariables false

theorem Rep.one_iff {n k : Nat} {p : List Int} (h : Rep n k p) : (k = 1 ∧ p.getD 0 0 = 1) ↔ n = 1 := by
  have hp := h.len
  constructor
  · rintro ⟨rfl, h1⟩
    have hv := h.val
    rw [vb_split 1000000 p 1 (by omega), vb_zero _ (p.drop 1) (fun i => by rw [getD_drop]; exact h.out _ (by omega))] at hv
    have : p.take 1 = [1] := by
      cases p with
      | nil => simp at hp
      | cons x p => simp at h1; simp [h1]
    rw [this] at hv; simp [vb] at hv; omega
  · rintro rfl
    have hk : k = 1 := by
      have h0 : k ≠ 0 := fun e => by have := h.zero_iff.1 e; omega
      by_cases e : k = 1
      · exact e
      · have h2 := h.ge (by omega)
        have h3 : (1000000 : Int) ^ 1 ≤ 1000000 ^ (k - 1) := ipow_le (by omega)
        simp at h3; omega
    subst hk
    refine ⟨rfl, ?_⟩
    have hv := h.val
    rw [vb_split 1000000 p 1 (by omega), vb_zero _ (p.drop 1) (fun i => by rw [getD_drop]; exact h.out _ (by omega))] at hv
    have : p.take 1 = [p.getD 0 0] := by
      cases p with
      | nil => simp at hp
      | cons x p => simp
    rw [this] at hv; simp [vb] at hv
    simpa using hv

set_option maxHeartbeats 400000 in
set_option maxRecDepth 100000 in
theorem isOne_any {n k : Nat} {p : List Int} (w : World) (hP : Rep n k p) :
    Calls Tryd.prog 29 #[.agg (natC k p)] w fun e w' => e = .returned (.bool (decide (n = 1))) ∧ Below w.heap.size w w' := by
  have hp := hP.len
  have A := NatAt.new w k p
  have hB : Below w.heap.size w (w.alloc (.cells (natC k p) 35)) := (Below.refl _ _).alloc (Nat.le_refl _) _
  have a0 := A.c0
  have a1 : (w.alloc (.cells (natC k p) 35)).cell? ⟨w.heap.size, 1, none⟩ = some (.int .i64 (p.getD 0 0)) := A.cs 0 (by omega)
  have hi := hP.one_iff
  obtain ⟨x, hx⟩ : ∃ x, x = p.getD 0 0 := ⟨_, rfl⟩
  rw [← hx] at a1 hi
  by_cases hk : k = 1
  · by_cases h1 : x = 1
    · rw [decide_eq_true (hi.1 ⟨hk, h1⟩)]
      have hk' : ((k : Int) == 1) = true := by simp [hk]
      subst h1
      clear hi hx hk
      go_enter Tryd.func29, Tryd.ntmps29
      go_wp2
      go_ret
      exact ⟨rfl, hB⟩
    · rw [decide_eq_false (fun e => h1 (hi.2 e).2)]
      have h1' : (x == 1) = false := by simpa using h1
      have hk' : ((k : Int) == 1) = true := by simp [hk]
      clear hi hx h1 hk
      go_enter Tryd.func29, Tryd.ntmps29
      go_wp2
      go_ret
      exact ⟨rfl, hB⟩
  · rw [decide_eq_false (fun e => hk (hi.2 e).1)]
    have hk' : ((k : Int) == 1) = false := by rw [beq_eq_false_iff_ne]; omega
    clear hi hx hk
    go_enter Tryd.func29, Tryd.ntmps29
    go_wp2
    go_ret
    exact ⟨rfl, hB⟩

end Go.Proofs.YtjgpjafndaikcaaDoor
