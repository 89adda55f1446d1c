/-
  Rows of cells in memory, in general.
-/
import Derived.Test.YtmfpnbmfcoahbaaDoorRows
import Derived.Below
import Derived.Deep.MidRow
namespace Go.Proofs.YtmfpnbmfcoahbaaDoor
open Go.RowKit
set_option linter.unusedVariables false

def RowAt (w : World) (b : Nat) (t : TypeId) (cs : Array Value) : Prop := w.heap[b]? = some (.cells cs t (0, 0))
theorem RowAt.new (w : World) (t : TypeId) (cs : Array Value) : RowAt (w.alloc (.cells cs t)) w.heap.size t cs := heap_alloc_new _ _
theorem RowAt.lt {w : World} {b : Nat} {t : TypeId} {cs : Array Value} (h : RowAt w b t cs) : b < w.heap.size := (Array.getElem?_eq_some_iff.1 h).1
theorem RowAt.old {w : World} {b : Nat} {t : TypeId} {cs : Array Value} (h : RowAt w b t cs) (o : Obj) : RowAt (w.alloc o) b t cs := by
  unfold RowAt; rw [Below.heap_alloc _ _ _ h.lt]; exact h
theorem RowAt.grown {w w' : World} {b : Nat} {t : TypeId} {cs : Array Value} {r : Option Nat} (h : RowAt w b t cs) (hg : w.grownBy w' r) (hr : some b ≠ r) : RowAt w' b t cs := by
  unfold RowAt; rw [hg.block b h.lt hr]; exact h
theorem RowAt.below {w w' : World} {b B : Nat} {t : TypeId} {cs : Array Value} (h : RowAt w b t cs) (hg : Below B w w') (hr : b < B) : RowAt w' b t cs := by
  unfold RowAt; rw [hg.block b hr]; exact h
/-- Values from the place o on are written into a row. -/
theorem RowAt.put {b : Nat} {t : TypeId} (vs : List Value) : ∀ (o : Nat) (w : World) (A C D : List Value), C.length = vs.length → A.length = o → RowAt w b t (A ++ C ++ D).toArray → RowAt (w.setCells b o vs) b t (A ++ vs ++ D).toArray := by
  induction vs with
  | nil => intro o w A C D hC hA h; rw [List.length_eq_zero_iff.1 hC] at h; exact h
  | cons v vs ih =>
    intro o w A C D hC hA h
    cases C with
    | nil => simp at hC
    | cons c C =>
      rw [World.setCells]
      have h1 : RowAt (w.setCell ⟨b, o, none⟩ v) b t ((A ++ [v]) ++ C ++ D).toArray := by
        unfold RowAt
        rw [heap_setCell_same w b o _ _ _ h]
        congr 2
        apply Array.ext'
        simp only [Array.toList_setIfInBounds, List.append_assoc, List.cons_append, List.nil_append]
        rw [← hA, List.set_append_right _ _ (Nat.le_refl _), Nat.sub_self, List.set_cons_zero]
      have := ih (o + 1) _ (A ++ [v]) C D (by simpa using hC) (by simp [hA]) h1
      simpa using this
theorem RowAt.range {w : World} {b : Nat} {t : TypeId} {A C D : List Value} (h : RowAt w b t (A ++ C ++ D).toArray) : w.rangeAt b A.length C := fun j v hv => by
  rw [cell_of_row w b _ _ _ _ h]
  have hj := (List.getElem?_eq_some_iff.1 hv).1
  simp only [List.getElem?_toArray, List.append_assoc]
  rw [List.getElem?_append_right (by omega), Nat.add_sub_cancel_left, List.getElem?_append_left hj]
  exact hv
theorem RowAt.there {w : World} {b : Nat} {t : TypeId} {A C D : List Value} (h : RowAt w b t (A ++ C ++ D).toArray) : w.there b A.length C.length := fun j hj => by
  refine ⟨?_, frozen_of_row w b _ _ _ h⟩
  rw [cell_of_row w b _ _ _ _ h]
  simp only [List.getElem?_toArray, List.append_assoc]
  rw [List.getElem?_append_right (by omega), Nat.add_sub_cancel_left, List.getElem?_append_left hj, List.getElem?_eq_getElem hj]
  rfl

section
variable {P : Program}
theorem run_storeVar_cell (w : World) (b o : Nat) (ty : TypeId) (v : Value) (hc : (w.cell? ⟨b, o, none⟩).isSome = true) (hf : w.frozen? ⟨b, o, none⟩ = false) (hi : (P.info? ty).map (·.size) = some 1) (h1 : v.oneCell' = true) :
    (storeVar ty ⟨b, o, none⟩ v).run P w = .ok () (w.setCell ⟨b, o, none⟩ v) := by
  have := run_storeCells_cells (P := P) b o [v] 0 w (fun j hj => by simp at hj; subst hj; simpa using hc) (fun j hj => by simp at hj; subst hj; simpa using hf) (fun x hx => by simp at hx; subst hx; exact h1)
  have hcl : v.cells = #[v] := by cases v <;> first | rfl | cases h1
  cases hq : P.info? ty with
  | none => simp [hq] at hi
  | some i =>
    have hs : i.size = 1 := by simpa [hq] using hi
    simp only [Nat.add_zero] at this
    simp [storeVar, sizeOf, typeInfo, hq, hcl, hs, this, World.setCells]
end
theorem grown_set (w : World) (b o : Nat) (v : Value) : w.grownBy (w.setCell ⟨b, o, none⟩ v) (some b) :=
  ⟨rfl, rfl, rfl, by simp, fun k _ hne => heap_setCell_other w ⟨b, o, none⟩ k v (fun e => hne (by simp [e]))⟩
/-- One cell of a row is written. -/
theorem store_at {ops : Array Oper} {rest : List Oper} {op : Oper} {a : Act} {w : World} {Q : Exit → Act → World → Prop} (hgd : op.guard = none) (ty : TypeId) (x y : Operand) (ho : op.op = .store ty x y) (hd : op.dst = none)
    (b o : Nat) (v : Value) (hx : a.eval x = .pointer (some ⟨b, o, none⟩)) (hy : a.eval y = v) (hi : (Tryd.prog.info? ty).map (·.size) = some 1) (h1 : v.oneCell' = true) (t : TypeId) (cs : Array Value) (hR : RowAt w b t cs) (hon : o < cs.size)
    (h : ∀ w', RowAt w' b t (cs.setIfInBounds o v) → w.grownBy w' (some b) → w'.heap.size = w.heap.size → wpList Tryd.prog ops Q rest a w') : wpList Tryd.prog ops Q (op :: rest) a w :=
  wpList_plain hgd fun _ hK => by
    have hc : (w.cell? ⟨b, o, none⟩).isSome = true := by rw [cell_of_row w b _ _ _ _ hR, Array.getElem?_eq_getElem hon]; rfl
    unfold Oper.wp execOp
    simp only [ho, hx, hy, Instr.storeAt, Instr.sureAddr, Sem.run_bind, Sem.run_pure, Result.andThen_ok, run_storeVar_cell w b o ty v hc (frozen_of_row w b _ _ _ hR) hi h1]
    have := h _ (heap_setCell_same w b o _ _ _ hR) (grown_set w b o v) (by simp)
    have e : a.put op.dst undef = a := by rw [hd]; rfl
    refine hK _ _ ?_
    rw [e]
    exact this
end Go.Proofs.YtmfpnbmfcoahbaaDoor
