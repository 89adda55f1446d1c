/-
  slices.Sort and slices.Compact over a row of ints of the call's own.
-/
import Derived.Test.YtbnagagdboeedaaShelfSort
import Derived.Test.YtbnagagdboeedaaFreeMath
import Derived.Sort.OwnSortedInts
namespace Go.Proofs.Ytbnagagdboeedaa
open Go.RowKit Go.Sort
set_option linter.unusedVariables false

theorem intL_flat (l : List Int) : l.flatMap intL = l.map (Value.int .i64) := by
  induction l with
  | nil => rfl
  | cons a l ih => rw [List.flatMap_cons, ih, List.map_cons]; rfl
theorem sorted_any (B : Nat) (L : List Int) (v : Value) (w : World) (h : OwnR w B v 3 intL 1 L) (hl : L.length ≤ 1000000) :
    Calls Try.prog 94 #[v] w fun e w' => e = .returned (.tuple #[]) ∧ OwnR w' B v 3 intL 1 (L.mergeSort fun x y => decide (x ≤ y)) ∧ w.grownBy w' v.ownBlock := by
  obtain ⟨h0, h | ⟨g, cap, cur, rfl, hg, hb, h1, h2, h3, h4⟩⟩ := h
  · obtain ⟨rfl, hn⟩ := h
    have hL : L = [] := List.length_eq_zero_iff.1 hn
    subst hL
    refine (Try.slices_Sort_int_none none 0 w).mono ?_
    rintro e w' ⟨rfl, rfl⟩
    exact ⟨rfl, by rw [List.mergeSort_nil]; exact World.ownsRow_nil _ _ _ _, ⟨rfl, rfl, rfl, Nat.le_refl _, fun _ _ _ => rfl⟩⟩
  · rw [intL_flat, Nat.mul_one] at h4
    have hlt : g < w.heap.size := (Array.getElem?_eq_some_iff.1 hb).1
    refine (Try.slices_Sort_int g 0 cap L w (holds_of_blockI hb h4) hlt (by omega)).mono ?_
    rintro e w' ⟨rfl, n, os, rfl⟩
    refine ⟨rfl, ?_, grownBy_sortedI _⟩
    have := ownsRow_sortedI (n := n) (os := os) (ss := L) (ts := L.mergeSort fun x y => decide (x ≤ y)) (List.length_mergeSort _) hg hb h1 h2 h3
    unfold OwnR
    rw [intL_flat, List.length_mergeSort]
    exact this
theorem own_less {w : World} {B g cap n k : Nat} {e : TypeId} {xs : List Value} (h : w.ownsRow B e 1 (.slice (some ⟨g, 0, none⟩) n cap) n xs) (hk : k ≤ n) : w.ownsRow B e 1 (.slice (some ⟨g, 0, none⟩) k cap) k (xs.take k) := by
  obtain ⟨h0, h | ⟨g', cap', cur, e1, hg, hb, h1, h2, h3, h4⟩⟩ := h
  · cases h.1
  · cases e1
    refine ⟨by rw [List.length_take, h0]; omega, .inr ⟨g, cap, cur, rfl, hg, hb, by omega, h2, h3, ?_⟩⟩
    rw [← h4, List.take_take]
    congr 1
    omega
theorem compact_len (L : List Int) : (Go.Lib.compact L).length ≤ L.length := by
  unfold Go.Lib.compact Go.Lib.compactUpTo
  rw [List.length_map]
  exact Nat.le_trans (List.length_filter_le _ _) (by simp)
theorem compact_any (B : Nat) (L : List Int) (v : Value) (w : World) (h : OwnR w B v 3 intL 1 L) (hl : L.length ≤ 1000000) :
    Calls Try.prog 95 #[v] w fun e w' => (∃ u, e = .returned u ∧ OwnR w' B u 3 intL 1 (Go.Lib.compact L)) ∧ w.grownBy w' v.ownBlock := by
  obtain ⟨h0, h | ⟨g, cap, cur, rfl, hg, hb, h1, h2, h3, h4⟩⟩ := h
  · obtain ⟨rfl, hn⟩ := h
    have hL : L = [] := List.length_eq_zero_iff.1 hn
    subst hL
    refine (Try.slices_Compact_int_empty none 0 w).mono ?_
    rintro e w' ⟨rfl, rfl⟩
    exact ⟨⟨_, rfl, World.ownsRow_nil _ _ _ _⟩, ⟨rfl, rfl, rfl, Nat.le_refl _, fun _ _ _ => rfl⟩⟩
  · rw [intL_flat, Nat.mul_one] at h4
    have hcl := compact_len L
    refine (Try.slices_Compact_int g 0 cap L w (holds_of_blockI hb h4) (by omega) h1).mono ?_
    rintro e w' ⟨rfl, n, rfl⟩
    have e1 : ∀ d : Array Int, putRow (Value.int .i64) (Sort.ahead w n) g 0 d = grow (putRow (Value.int .i64) (Sort.ahead w n) g 0 d) #[] := fun d => by
      obtain ⟨X, hX⟩ : ∃ X, X = putRow (Value.int .i64) (Sort.ahead w n) g 0 d := ⟨_, rfl⟩
      rw [← hX]; unfold grow; rw [Array.append_empty]
    rw [e1]
    refine ⟨⟨_, rfl, ?_⟩, grownBy_sortedI _⟩
    have := own_less (ownsRow_sortedI (n := n) (os := #[]) (ss := L) (ts := Go.Lib.compact L ++ List.replicate (L.length - (Go.Lib.compact L).length) 0) (by simp; omega) hg hb h1 h2 h3) hcl
    unfold OwnR
    rw [intL_flat]
    rw [List.map_append, List.take_left' (by simp)] at this
    exact this
end Go.Proofs.Ytbnagagdboeedaa
