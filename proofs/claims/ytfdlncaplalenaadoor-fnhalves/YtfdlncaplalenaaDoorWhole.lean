/-
  Whole numbers and fractions of impl in memory.
-/
import Derived.Test.YtfdlncaplalenaaDoorBaseRow
import Derived.Test.YtfdlncaplalenaaDoorPkMinus
import Derived.Great.FillDense
import Derived.Deep.MidRow
namespace Go.Proofs.YtfdlncaplalenaaDoor
open Go.RowKit
set_option linter.unusedVariables false

/-- The cells of a whole number, and of a fraction. -/
def natL (u : Int) (p : List Int) : List Value := (u :: p).map (Value.int .i64)
def wholeC (g : Bool) (u : Int) (p : List Int) : Array Value := (Value.bool g :: natL u p).toArray
def numC (g : Bool) (u : Int) (p : List Int) (v : Int) (q : List Int) : Array Value := (Value.bool g :: (natL u p ++ natL v q)).toArray

theorem natC_eq (u : Int) (p : List Int) : natC u p = (natL u p).toArray := rfl
theorem natL_len (u : Int) (p : List Int) : (natL u p).length = p.length + 1 := by simp [natL]
theorem wholeC_size (g : Bool) (u : Int) (p : List Int) : (wholeC g u p).size = p.length + 2 := by simp [wholeC, natL]
theorem numC_size (g : Bool) (u : Int) (p : List Int) (v : Int) (q : List Int) : (numC g u p v q).size = p.length + q.length + 3 := by simp [numC, natL]; omega
theorem natL_one (u : Int) (p : List Int) : ∀ v ∈ natL u p, v.oneCell' = true := by
  intro v hv
  simp [natL] at hv
  rcases hv with rfl | ⟨x, _, rfl⟩ <;> rfl
theorem wholeC_one (g : Bool) (u : Int) (p : List Int) : (wholeC g u p).all (·.oneCell') = true := by
  rw [Array.all_eq_true_iff_forall_mem]
  intro v hv
  simp only [wholeC, List.mem_toArray, List.mem_cons] at hv
  rcases hv with rfl | h
  · rfl
  · exact natL_one u p v h
theorem numC_one (g : Bool) (u : Int) (p : List Int) (v : Int) (q : List Int) : (numC g u p v q).all (·.oneCell') = true := by
  rw [Array.all_eq_true_iff_forall_mem]
  intro x hx
  simp only [numC, List.mem_toArray, List.mem_cons, List.mem_append] at hx
  rcases hx with rfl | h | h
  · rfl
  · exact natL_one u p x h
  · exact natL_one v q x h

/-! ### Cells in a row, in general -/
theorem whole_split (g : Bool) (u : Int) (p : List Int) : wholeC g u p = ([Value.bool g] ++ natL u p ++ []).toArray := by simp [wholeC]
theorem num_split1 (g : Bool) (u : Int) (p : List Int) (v : Int) (q : List Int) : numC g u p v q = ([Value.bool g] ++ natL u p ++ natL v q).toArray := by simp [numC]
theorem num_split2 (g : Bool) (u : Int) (p : List Int) (v : Int) (q : List Int) : numC g u p v q = ((Value.bool g :: natL u p) ++ natL v q ++ []).toArray := by simp [numC]
theorem num_split0 (g : Bool) (u : Int) (p : List Int) (v : Int) (q : List Int) : numC g u p v q = ([] ++ (Value.bool g :: natL u p) ++ natL v q).toArray := by simp [numC]

/-! ### Composites -/
theorem built_of {t : TypeId} {z : Array Value} {places : List (Nat × Nat)} {parts : List (Nat × Value)} {fields : Array Field} (hu : Tryd.prog.underlying t = some (.struct fields)) (hz : (Tryd.prog.info? t).bind (·.zero) = some (.agg z)) (hp : fields.toList.mapM (fun f => (Tryd.prog.info? f.type).map fun i => (f.offset, i.size)) = some places) :
    Tryd.prog.built t parts = Instr.fill (places.toArray[·]?) z parts := by
  unfold Program.built
  cases hi : Tryd.prog.info? t with
  | none => simp [hi] at hz
  | some it =>
    simp only [hi, Option.bind_some] at hz
    simp only [hu, hz, hp]
    rfl

theorem fill_step (place : Nat → Option (Nat × Nat)) (A C D : List Value) (i : Nat) (v : Value) (rest : List (Nat × Value)) (hp : place i = some (A.length, C.length)) (hv : v.cells.toList.length = C.length) :
    Instr.fill place (A ++ C ++ D).toArray ((i, v) :: rest) = Instr.fill place (A ++ v.cells.toList ++ D).toArray rest := by
  have hvs : v.cells.size = C.length := by simpa using hv
  conv => lhs; unfold Instr.fill
  simp only [hp, hvs]
  rw [if_neg (by first | (simp; done) | (simp; omega))]
  congr 1
  rw [← Array.foldl_toList, Array.toList_zipIdx]
  obtain ⟨g1, g2⟩ := Great.foldl_set A.length v.cells.toList 0 (A ++ C ++ D).toArray
  apply Array.ext_getElem?
  intro k
  rw [g2 k]
  simp only [Nat.add_zero, List.getElem?_toArray, List.size_toArray, List.append_assoc]
  by_cases h : A.length ≤ k ∧ k < A.length + v.cells.toList.length ∧ k < (A ++ (C ++ D)).length
  · rw [if_pos h, List.getElem?_append_right h.1, List.getElem?_append_left (by omega)]
  · rw [if_neg h]
    by_cases h1 : k < A.length
    · rw [List.getElem?_append_left h1, List.getElem?_append_left h1]
    · have h2 : ¬ k < A.length + C.length := fun h3 => h ⟨by omega, by omega, by simp; omega⟩
      rw [List.getElem?_append_right (by omega), List.getElem?_append_right (by omega), List.getElem?_append_right (by omega), List.getElem?_append_right (by omega), hv]

theorem cells_agg (c : Array Value) : (Value.agg c).cells = c := rfl
/-! ### Loads and stores of a walk -/
/-- The nat within a whole number, the two within a fraction, and the whole part of a fraction, are read whole. -/
theorem load_mid_nat {ops : Array Oper} {rest : List Oper} {o : Oper} {a : Act} {w : World} {Q : Exit → Act → World → Prop} (hgd : o.guard = none) (x : Operand) (ho : o.op = .load 41 x)
    (b off : Nat) (hx : a.eval x = .pointer (some ⟨b, off, none⟩)) (u : Int) (p : List Int) (hr : w.rangeAt b off (natL u p)) (hl : p.length = 204)
    (h : wpList Tryd.prog ops Q rest (a.put o.dst (.agg (natC u p))) w) : wpList Tryd.prog ops Q (o :: rest) a w :=
  wpList_load_mid hgd 41 x ho b off hx (natL u p) _ hr Tryd.underlying41 rfl (by rw [nat_info u p hl, natC_eq]; simp) h
theorem setCells_grown (b : Nat) : ∀ (vs : List Value) (o : Nat) (w : World), w.grownBy (w.setCells b o vs) (some b) ∧ (w.setCells b o vs).heap.size = w.heap.size
  | [], _, w => ⟨⟨rfl, rfl, rfl, Nat.le_refl _, fun _ _ _ => rfl⟩, rfl⟩
  | v :: r, o, w => by
    rw [World.setCells]
    obtain ⟨h1, h2⟩ := setCells_grown b r (o + 1) (w.setCell ⟨b, o, none⟩ v)
    have hg := grownBy_set (r0 w) (b := b) o v
    exact ⟨grownBy_trans hg h1, by rw [h2, size_setCell]⟩

end Go.Proofs.YtfdlncaplalenaaDoor
