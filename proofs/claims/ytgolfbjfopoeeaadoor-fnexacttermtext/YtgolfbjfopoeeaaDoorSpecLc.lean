/-
  What the small makers of trees of the model answer: lcVar, lcLam, lcApp.
-/
import Derived.Test.YtgolfbjfopoeeaaDoorLcMem
import Derived.Test.YtgolfbjfopoeeaaDoorSpecTree
namespace Go.Proofs.YtgolfbjfopoeeaaDoor
open Go.RowKit BL
set_option linter.unusedVariables false

set_option maxHeartbeats 1000000 in
theorem lcVar_any (n : Int) (w : World) : Calls Tryd.prog 54 #[.int .i64 n] w fun e w' => e = .returned (.agg (lcC 1 n (.slice none 0 0))) ∧ Below w.heap.size w w' := by
  have hz := zero_lcT.1
  have HR := hideT' (RowAt.new w 48 #[.int .i64 1, .int .i64 n, .slice none 0 0])
  unfold lcC
  go_enter Tryd.func54, Tryd.ntmps54
  go_wp2
  refine bodyPost_ret (v := .agg #[.int .i64 1, .int .i64 n, .slice none 0 0]) (results_cell_row Tryd.results54 _ _ w.heap.size 48 #[.int .i64 1, .int .i64 n, .slice none 0 0] (0, 0) _ rfl HR.out Tryd.underlying48 rfl zero_lcT.2) rfl ⟨rfl, (Below.refl _ _).alloc (Nat.le_refl _) _⟩

set_option maxHeartbeats 2000000 in
theorem lcLam_any (t : Lm) (z : Value) (P : Nat → Prop) (w : World) (h : LcIn w P t z) :
    Calls Tryd.prog 52 #[.agg (lcC t.kd t.nm z)] w fun e w' => (∃ z', e = .returned (.agg (lcC 2 0 z')) ∧ LcIn w' (fun x => P x ∨ w.heap.size ≤ x) (.lam t) z') ∧ Below w.heap.size w w' := by
  have hz := zero_lcT.1
  obtain ⟨oz, cz, rfl⟩ := h.form
  obtain ⟨W, hW⟩ : ∃ W, W = ((w.alloc (.cells #[.int .i64 t.kd, .int .i64 t.nm, .slice oz t.kids.length cz] 48)).alloc (.cells #[.int .i64 2, .int .i64 0, .slice (some ⟨w.heap.size + 1 + 1, 0, none⟩) 1 1] 48)).alloc (.cells #[.int .i64 t.kd, .int .i64 t.nm, .slice oz t.kids.length cz] 48) := ⟨_, rfl⟩
  have hB : Below w.heap.size w W := by rw [hW]; exact (((Below.refl _ _).alloc (Nat.le_refl _) _).alloc (by simp) _).alloc (by simp; omega) _
  have hR : RowAt W (w.heap.size + 1) 48 #[.int .i64 2, .int .i64 0, .slice (some ⟨w.heap.size + 1 + 1, 0, none⟩) 1 1] := by
    rw [hW]
    have := RowAt.new (w.alloc (.cells #[.int .i64 t.kd, .int .i64 t.nm, .slice oz t.kids.length cz] 48)) 48 #[.int .i64 2, .int .i64 0, .slice (some ⟨w.heap.size + 1 + 1, 0, none⟩) 1 1]
    rw [World.size_alloc] at this
    exact RowAt.old this _
  have hK : RowAt W (w.heap.size + 1 + 1) 48 #[.int .i64 t.kd, .int .i64 t.nm, .slice oz t.kids.length cz] := by
    rw [hW]
    have := RowAt.new ((w.alloc (.cells #[.int .i64 t.kd, .int .i64 t.nm, .slice oz t.kids.length cz] 48)).alloc (.cells #[.int .i64 2, .int .i64 0, .slice (some ⟨w.heap.size + 1 + 1, 0, none⟩) 1 1] 48)) 48 #[.int .i64 t.kd, .int .i64 t.nm, .slice oz t.kids.length cz]
    rw [World.size_alloc, World.size_alloc] at this
    exact this
  have HF : Hid (LcIn W (fun x => P x ∨ w.heap.size ≤ x) (.lam t) (.slice (some ⟨w.heap.size + 1 + 1, 0, none⟩) 1 1) ∧ Below w.heap.size w W ∧ RowAt W (w.heap.size + 1) 48 #[.int .i64 2, .int .i64 0, .slice (some ⟨w.heap.size + 1 + 1, 0, none⟩) 1 1]) := by
    refine ⟨⟨w.heap.size + 1 + 1, 1, .slice oz t.kids.length cz, rfl, ⟨hK.lt, .inr (by omega)⟩, ⟨?_, ?_, ?_⟩, LcIn.keep (w := w) hB.size (fun x _ hx => hB.block x hx) (fun x hx _ => .inl hx) h⟩, hB, hR⟩ <;> (rw [cell_of_row _ _ _ _ _ _ hK]; rfl)
  clear h hB hR hK
  unfold lcC
  go_enter Tryd.func52, Tryd.ntmps52
  go_wp2
  rw [← hW]
  exact bodyPost_ret (v := .agg #[.int .i64 2, .int .i64 0, .slice (some ⟨w.heap.size + 1 + 1, 0, none⟩) 1 1]) (results_cell_row Tryd.results52 _ _ (w.heap.size + 1) 48 #[.int .i64 2, .int .i64 0, .slice (some ⟨w.heap.size + 1 + 1, 0, none⟩) 1 1] (0, 0) _ rfl HF.out.2.2 Tryd.underlying48 rfl zero_lcT.2) rfl ⟨⟨_, rfl, HF.out.1⟩, HF.out.2.1⟩
set_option maxHeartbeats 2000000 in
theorem lcApp_any (s t : Lm) (z1 z2 : Value) (P : Nat → Prop) (w : World) (h1 : LcIn w P s z1) (h2 : LcIn w P t z2) :
    Calls Tryd.prog 53 #[.agg (lcC s.kd s.nm z1), .agg (lcC t.kd t.nm z2)] w fun e w' => (∃ z', e = .returned (.agg (lcC 3 0 z')) ∧ LcIn w' (fun x => P x ∨ w.heap.size ≤ x) (.app s t) z') ∧ Below w.heap.size w w' := by
  have hz := zero_lcT.1
  obtain ⟨o1, c1, rfl⟩ := h1.form
  obtain ⟨o2, c2, rfl⟩ := h2.form
  obtain ⟨W, hW⟩ : ∃ W, W = (((w.alloc (.cells #[.int .i64 s.kd, .int .i64 s.nm, .slice o1 s.kids.length c1] 48)).alloc (.cells #[.int .i64 t.kd, .int .i64 t.nm, .slice o2 t.kids.length c2] 48)).alloc (.cells #[.int .i64 3, .int .i64 0, .slice (some ⟨w.heap.size + 1 + 1 + 1, 0, none⟩) 2 2] 48)).alloc (.cells #[.int .i64 s.kd, .int .i64 s.nm, .slice o1 s.kids.length c1, .int .i64 t.kd, .int .i64 t.nm, .slice o2 t.kids.length c2] 48) := ⟨_, rfl⟩
  have hB : Below w.heap.size w W := by rw [hW]; exact ((((Below.refl _ _).alloc (Nat.le_refl _) _).alloc (by simp) _).alloc (by simp; omega) _).alloc (by simp; omega) _
  have hR : RowAt W (w.heap.size + 1 + 1) 48 #[.int .i64 3, .int .i64 0, .slice (some ⟨w.heap.size + 1 + 1 + 1, 0, none⟩) 2 2] := by
    rw [hW]
    have := RowAt.new ((w.alloc (.cells #[.int .i64 s.kd, .int .i64 s.nm, .slice o1 s.kids.length c1] 48)).alloc (.cells #[.int .i64 t.kd, .int .i64 t.nm, .slice o2 t.kids.length c2] 48)) 48 #[.int .i64 3, .int .i64 0, .slice (some ⟨w.heap.size + 1 + 1 + 1, 0, none⟩) 2 2]
    rw [World.size_alloc, World.size_alloc] at this
    exact RowAt.old this _
  have hK : RowAt W (w.heap.size + 1 + 1 + 1) 48 #[.int .i64 s.kd, .int .i64 s.nm, .slice o1 s.kids.length c1, .int .i64 t.kd, .int .i64 t.nm, .slice o2 t.kids.length c2] := by
    rw [hW]
    have := RowAt.new (((w.alloc (.cells #[.int .i64 s.kd, .int .i64 s.nm, .slice o1 s.kids.length c1] 48)).alloc (.cells #[.int .i64 t.kd, .int .i64 t.nm, .slice o2 t.kids.length c2] 48)).alloc (.cells #[.int .i64 3, .int .i64 0, .slice (some ⟨w.heap.size + 1 + 1 + 1, 0, none⟩) 2 2] 48)) 48 #[.int .i64 s.kd, .int .i64 s.nm, .slice o1 s.kids.length c1, .int .i64 t.kd, .int .i64 t.nm, .slice o2 t.kids.length c2]
    rw [World.size_alloc, World.size_alloc, World.size_alloc] at this
    exact this
  have HF : Hid (LcIn W (fun x => P x ∨ w.heap.size ≤ x) (.app s t) (.slice (some ⟨w.heap.size + 1 + 1 + 1, 0, none⟩) 2 2) ∧ Below w.heap.size w W ∧ RowAt W (w.heap.size + 1 + 1) 48 #[.int .i64 3, .int .i64 0, .slice (some ⟨w.heap.size + 1 + 1 + 1, 0, none⟩) 2 2]) := by
    refine ⟨⟨w.heap.size + 1 + 1 + 1, 2, .slice o1 s.kids.length c1, .slice o2 t.kids.length c2, rfl, ⟨hK.lt, .inr (by omega)⟩, ⟨?_, ?_, ?_⟩, ⟨?_, ?_, ?_⟩, LcIn.keep (w := w) hB.size (fun x _ hx => hB.block x hx) (fun x hx _ => .inl hx) h1, LcIn.keep (w := w) hB.size (fun x _ hx => hB.block x hx) (fun x hx _ => .inl hx) h2⟩, hB, hR⟩ <;> (rw [cell_of_row _ _ _ _ _ _ hK]; rfl)
  clear h1 h2 hB hR hK
  unfold lcC
  go_enter Tryd.func53, Tryd.ntmps53
  go_wp2
  rw [← hW]
  exact bodyPost_ret (v := .agg #[.int .i64 3, .int .i64 0, .slice (some ⟨w.heap.size + 1 + 1 + 1, 0, none⟩) 2 2]) (results_cell_row Tryd.results53 _ _ (w.heap.size + 1 + 1) 48 #[.int .i64 3, .int .i64 0, .slice (some ⟨w.heap.size + 1 + 1 + 1, 0, none⟩) 2 2] (0, 0) _ rfl HF.out.2.2 Tryd.underlying48 rfl zero_lcT.2) rfl ⟨⟨_, rfl, HF.out.1⟩, HF.out.2.1⟩
end Go.Proofs.YtgolfbjfopoeeaaDoor
