/-
  Whole numbers and fractions of impl in memory.
-/
import Derived.Test.YtmfpnbmfcoahbaaGreatDoorBaseRow
import Derived.Test.YtmfpnbmfcoahbaaGreatDoorPkMinus
import Derived.Great.FillDense
import Derived.Deep.MidRow
namespace Go.Proofs.YtmfpnbmfcoahbaaGreatDoor
open Go.RowKit
set_option linter.unusedVariables false

/-- The cells of a whole number, and of a fraction. -/
def natL (u : Int) (p : List Int) : List Value := (u :: p).map (Value.int .i64)
def wholeC (g : Bool) (u : Int) (p : List Int) : Array Value := (Value.bool g :: natL u p).toArray
def numC (g : Bool) (u : Int) (p : List Int) (v : Int) (q : List Int) : Array Value := (Value.bool g :: (natL u p ++ natL v q)).toArray

theorem natC_eq (u : Int) (p : List Int) : natC u p = (natL u p).toArray := rfl
theorem natL_len (u : Int) (p : List Int) : (natL u p).length = p.length + 1 := by simp [natL]
theorem wholeC_size (g : Bool) (u : Int) (p : List Int) : (wholeC g u p).size = p.length + 2 := by simp [wholeC, natL]
theorem numC_size (g : Bool) (u : Int) (p : List Int) (v : Int) (q : List Int) : (numC g u p v q).size = p.length + q.length + 3 := by simp [numC, natL]; omega
theorem natL_one (u : Int) (p : List Int) : ∀ v ∈ natL u p, v.oneCell' = true := by
  intro v hv
  simp [natL] at hv
  rcases hv with rfl | ⟨x, _, rfl⟩ <;> rfl
theorem wholeC_one (g : Bool) (u : Int) (p : List Int) : (wholeC g u p).all (·.oneCell') = true := by
  rw [Array.all_eq_true_iff_forall_mem]
  intro v hv
  simp only [wholeC, List.mem_toArray, List.mem_cons] at hv
  rcases hv with rfl | h
  · rfl
  · exact natL_one u p v h
theorem numC_one (g : Bool) (u : Int) (p : List Int) (v : Int) (q : List Int) : (numC g u p v q).all (·.oneCell') = true := by
  rw [Array.all_eq_true_iff_forall_mem]
  intro x hx
  simp only [numC, List.mem_toArray, List.mem_cons, List.mem_append] at hx
  rcases hx with rfl | h | h
  · rfl
  · exact natL_one u p x h
  · exact natL_one v q x h

theorem zero_whole : (∀ w, (zeroValue 36).run Tryz.prog w = .ok (.agg (wholeC false 0 zP)) w) ∧ (Tryz.prog.info? 36).map (·.size) = some 206 := zero_of_info (by kernel_rfl)
theorem zero_num : (∀ w, (zeroValue 48).run Tryz.prog w = .ok (.agg (numC false 0 zP 0 zP)) w) ∧ (Tryz.prog.info? 48).map (·.size) = some 411 := zero_of_info (by kernel_rfl)

theorem whole_info (g : Bool) (u : Int) (p : List Int) (h : p.length = 204) : (Tryz.prog.info? 36).map (·.size) = some (wholeC g u p).size := by
  rw [zero_whole.2, wholeC_size, h]
theorem num_info (g : Bool) (u : Int) (p : List Int) (v : Int) (q : List Int) (h : p.length = 204) (h' : q.length = 204) : (Tryz.prog.info? 48).map (·.size) = some (numC g u p v q).size := by
  rw [zero_num.2, numC_size, h, h']

/-! ### Cells in a row, in general -/
def WholeAt (w : World) (b : Nat) (g : Bool) (u : Int) (p : List Int) : Prop := RowAt w b 36 (wholeC g u p)
def NumAt (w : World) (b : Nat) (g : Bool) (u : Int) (p : List Int) (v : Int) (q : List Int) : Prop := RowAt w b 48 (numC g u p v q)

theorem whole_split (g : Bool) (u : Int) (p : List Int) : wholeC g u p = ([Value.bool g] ++ natL u p ++ []).toArray := by simp [wholeC]
theorem num_split1 (g : Bool) (u : Int) (p : List Int) (v : Int) (q : List Int) : numC g u p v q = ([Value.bool g] ++ natL u p ++ natL v q).toArray := by simp [numC]
theorem num_split2 (g : Bool) (u : Int) (p : List Int) (v : Int) (q : List Int) : numC g u p v q = ((Value.bool g :: natL u p) ++ natL v q ++ []).toArray := by simp [numC]
theorem num_split0 (g : Bool) (u : Int) (p : List Int) (v : Int) (q : List Int) : numC g u p v q = ([] ++ (Value.bool g :: natL u p) ++ natL v q).toArray := by simp [numC]

/-! ### Composites -/
theorem built_of {t : TypeId} {z : Array Value} {places : List (Nat × Nat)} {parts : List (Nat × Value)} {fields : Array Field} (hu : Tryz.prog.underlying t = some (.struct fields)) (hz : (Tryz.prog.info? t).bind (·.zero) = some (.agg z)) (hp : fields.toList.mapM (fun f => (Tryz.prog.info? f.type).map fun i => (f.offset, i.size)) = some places) :
    Tryz.prog.built t parts = Instr.fill (places.toArray[·]?) z parts := by
  unfold Program.built
  cases hi : Tryz.prog.info? t with
  | none => simp [hi] at hz
  | some it =>
    simp only [hi, Option.bind_some] at hz
    simp only [hu, hz, hp]
    rfl

theorem fill_step (place : Nat → Option (Nat × Nat)) (A C D : List Value) (i : Nat) (v : Value) (rest : List (Nat × Value)) (hp : place i = some (A.length, C.length)) (hv : v.cells.toList.length = C.length) :
    Instr.fill place (A ++ C ++ D).toArray ((i, v) :: rest) = Instr.fill place (A ++ v.cells.toList ++ D).toArray rest := by
  have hvs : v.cells.size = C.length := by simpa using hv
  conv => lhs; unfold Instr.fill
  simp only [hp, hvs]
  rw [if_neg (by first | (simp; done) | (simp; omega))]
  congr 1
  rw [← Array.foldl_toList, Array.toList_zipIdx]
  obtain ⟨g1, g2⟩ := Great.foldl_set A.length v.cells.toList 0 (A ++ C ++ D).toArray
  apply Array.ext_getElem?
  intro k
  rw [g2 k]
  simp only [Nat.add_zero, List.getElem?_toArray, List.size_toArray, List.append_assoc]
  by_cases h : A.length ≤ k ∧ k < A.length + v.cells.toList.length ∧ k < (A ++ (C ++ D)).length
  · rw [if_pos h, List.getElem?_append_right h.1, List.getElem?_append_left (by omega)]
  · rw [if_neg h]
    by_cases h1 : k < A.length
    · rw [List.getElem?_append_left h1, List.getElem?_append_left h1]
    · have h2 : ¬ k < A.length + C.length := fun h3 => h ⟨by omega, by omega, by simp; omega⟩
      rw [List.getElem?_append_right (by omega), List.getElem?_append_right (by omega), List.getElem?_append_right (by omega), List.getElem?_append_right (by omega), hv]

theorem whole_places : ∃ fields : Array Field, Tryz.prog.underlying 36 = some (.struct fields) ∧ fields.toList.mapM (fun f => (Tryz.prog.info? f.type).map fun i => (f.offset, i.size)) = some [(0, 1), (1, 205)] := by
  refine ⟨_, Tryz.underlying36, by kernel_rfl⟩
theorem num_places : ∃ fields : Array Field, Tryz.prog.underlying 48 = some (.struct fields) ∧ fields.toList.mapM (fun f => (Tryz.prog.info? f.type).map fun i => (f.offset, i.size)) = some [(0, 206), (206, 205)] := by
  refine ⟨_, Tryz.underlying48, by kernel_rfl⟩

theorem cells_agg (c : Array Value) : (Value.agg c).cells = c := rfl
theorem built_whole (g : Bool) (u : Int) (p : List Int) (h : p.length = 204) : Tryz.prog.built 36 [(0, .bool g), (1, .agg (natC u p))] = some (wholeC g u p) := by
  obtain ⟨fs, h1, h2⟩ := whole_places
  have hz : (Tryz.prog.info? 36).bind (·.zero) = some (.agg (wholeC false 0 zP)) := by kernel_rfl
  rw [built_of h1 hz h2, whole_split false 0 zP]
  have e1 : ([Value.bool false] ++ natL 0 zP ++ ([] : List Value)).toArray = (([] : List Value) ++ [Value.bool false] ++ natL 0 zP).toArray := by simp
  rw [e1]
  rw [fill_step _ [] [Value.bool false] (natL 0 zP) 0 (.bool g) _ rfl rfl]
  have e2 : (([] : List Value) ++ (Value.bool g).cells.toList ++ natL 0 zP).toArray = ([Value.bool g] ++ natL 0 zP ++ ([] : List Value)).toArray := by simp [Value.cells]
  rw [e2]
  rw [fill_step _ [Value.bool g] (natL 0 zP) [] 1 (.agg (natC u p)) _ (by rw [natL_len, zP_len]; rfl) (by rw [cells_agg, natC_eq]; simp [natL_len, zP_len, h])]
  simp [Instr.fill, cells_agg, natC_eq, wholeC]
theorem built_num (g : Bool) (u : Int) (p : List Int) (v : Int) (q : List Int) (h : p.length = 204) (h' : q.length = 204) : Tryz.prog.built 48 [(0, .agg (wholeC g u p)), (1, .agg (natC v q))] = some (numC g u p v q) := by
  obtain ⟨fs, h1, h2⟩ := num_places
  have hz : (Tryz.prog.info? 48).bind (·.zero) = some (.agg (numC false 0 zP 0 zP)) := by kernel_rfl
  rw [built_of h1 hz h2, num_split0 false 0 zP 0 zP]
  rw [fill_step _ [] (Value.bool false :: natL 0 zP) (natL 0 zP) 0 (.agg (wholeC g u p)) _ (by simp only [List.length_cons, natL_len, zP_len]; rfl) (by rw [cells_agg, wholeC]; simp [natL_len, zP_len, h])]
  have e3 : (([] : List Value) ++ (Value.agg (wholeC g u p)).cells.toList ++ natL 0 zP).toArray = ((Value.bool g :: natL u p) ++ natL 0 zP ++ ([] : List Value)).toArray := by simp [cells_agg, wholeC]
  rw [e3]
  rw [fill_step _ (Value.bool g :: natL u p) (natL 0 zP) [] 1 (.agg (natC v q)) _ (by simp only [List.length_cons, natL_len, zP_len, h]; rfl) (by rw [cells_agg, natC_eq]; simp [natL_len, zP_len, h'])]
  simp [Instr.fill, cells_agg, natC_eq, numC]

/-! ### Loads and stores of a walk -/
theorem build_whole {ops : Array Oper} {rest : List Oper} {o : Oper} {a : Act} {w : World} {Q : Exit → Act → World → Prop} (hg : o.guard = none) (x y : Operand) (ho : o.op = .build 36 #[(0, x), (1, y)]) (d : Option Tmp) (hd : o.dst = d)
    (g : Bool) (u : Int) (p : List Int) (hp : p.length = 204) (hx : a.eval x = .bool g) (hy : a.eval y = .agg (natC u p)) (h : wpList Tryz.prog ops Q rest (a.put d (.agg (wholeC g u p))) w) : wpList Tryz.prog ops Q (o :: rest) a w := by
  refine wpList_buildTo hg 36 _ ho d hd (wholeC g u p) ?_ h
  have e : (Array.map (fun (i, x) => (i, a.eval x)) #[(0, x), (1, y)]).toList = [(0, a.eval x), (1, a.eval y)] := by simp
  rw [e, hx, hy]
  exact built_whole g u p hp
theorem build_num {ops : Array Oper} {rest : List Oper} {o : Oper} {a : Act} {w : World} {Q : Exit → Act → World → Prop} (hg : o.guard = none) (x y : Operand) (ho : o.op = .build 48 #[(0, x), (1, y)]) (d : Option Tmp) (hd : o.dst = d)
    (g : Bool) (u : Int) (p : List Int) (v : Int) (q : List Int) (hp : p.length = 204) (hq : q.length = 204) (hx : a.eval x = .agg (wholeC g u p)) (hy : a.eval y = .agg (natC v q)) (h : wpList Tryz.prog ops Q rest (a.put d (.agg (numC g u p v q))) w) : wpList Tryz.prog ops Q (o :: rest) a w := by
  refine wpList_buildTo hg 48 _ ho d hd (numC g u p v q) ?_ h
  have e : (Array.map (fun (i, x) => (i, a.eval x)) #[(0, x), (1, y)]).toList = [(0, a.eval x), (1, a.eval y)] := by simp
  rw [e, hx, hy]
  exact built_num g u p v q hp hq
theorem load_whole {ops : Array Oper} {rest : List Oper} {o : Oper} {a : Act} {w : World} {Q : Exit → Act → World → Prop} (hgd : o.guard = none) (x : Operand) (ho : o.op = .load 36 x)
    (b : Nat) (hx : a.eval x = .pointer (some ⟨b, 0, none⟩)) (g : Bool) (u : Int) (p : List Int) (hN : WholeAt w b g u p) (hl : p.length = 204)
    (h : wpList Tryz.prog ops Q rest (a.put o.dst (.agg (wholeC g u p))) w) : wpList Tryz.prog ops Q (o :: rest) a w :=
  wpList_load_row hgd 36 x ho b hx 36 (wholeC g u p) (0, 0) _ hN Tryz.underlying36 rfl (whole_info g u p hl) h
theorem store_whole {ops : Array Oper} {rest : List Oper} {o : Oper} {a : Act} {w : World} {Q : Exit → Act → World → Prop} (hgd : o.guard = none) (x y : Operand) (ho : o.op = .store 36 x y) (hd : o.dst = none)
    (b : Nat) (g : Bool) (u : Int) (p : List Int) (hx : a.eval x = .pointer (some ⟨b, 0, none⟩)) (hy : a.eval y = .agg (wholeC g u p)) (g0 : Bool) (u0 : Int) (p0 : List Int) (hN : WholeAt w b g0 u0 p0) (h0 : p0.length = 204) (hl : p.length = 204)
    (h : ∀ w', WholeAt w' b g u p → w.grownBy w' (some b) → w'.heap.size = w.heap.size → wpList Tryz.prog ops Q rest a w') : wpList Tryz.prog ops Q (o :: rest) a w := by
  refine wpList_store_row hgd 36 x y ho b (wholeC g u p) hx hy 36 (wholeC g0 u0 p0) hN (whole_info g u p hl) (by rw [wholeC_size, wholeC_size, h0, hl]) (wholeC_one _ _ _) ?_
  rw [hd]
  exact h _ (setRow_heap w b _ _ _ _ hN) ⟨rfl, rfl, rfl, by simp, fun k _ hne => setRow_other w b k _ (by intro e; exact hne (by rw [e]))⟩ (by simp)
theorem load_num {ops : Array Oper} {rest : List Oper} {o : Oper} {a : Act} {w : World} {Q : Exit → Act → World → Prop} (hgd : o.guard = none) (x : Operand) (ho : o.op = .load 48 x)
    (b : Nat) (hx : a.eval x = .pointer (some ⟨b, 0, none⟩)) (g : Bool) (u : Int) (p : List Int) (v : Int) (q : List Int) (hN : NumAt w b g u p v q) (hl : p.length = 204) (hm : q.length = 204)
    (h : wpList Tryz.prog ops Q rest (a.put o.dst (.agg (numC g u p v q))) w) : wpList Tryz.prog ops Q (o :: rest) a w :=
  wpList_load_row hgd 48 x ho b hx 48 (numC g u p v q) (0, 0) _ hN Tryz.underlying48 rfl (num_info g u p v q hl hm) h
theorem store_num {ops : Array Oper} {rest : List Oper} {o : Oper} {a : Act} {w : World} {Q : Exit → Act → World → Prop} (hgd : o.guard = none) (x y : Operand) (ho : o.op = .store 48 x y) (hd : o.dst = none)
    (b : Nat) (g : Bool) (u : Int) (p : List Int) (v : Int) (q : List Int) (hx : a.eval x = .pointer (some ⟨b, 0, none⟩)) (hy : a.eval y = .agg (numC g u p v q)) (g0 : Bool) (u0 : Int) (p0 : List Int) (v0 : Int) (q0 : List Int) (hN : NumAt w b g0 u0 p0 v0 q0) (h0 : p0.length = 204) (h0' : q0.length = 204) (hl : p.length = 204) (hm : q.length = 204)
    (h : ∀ w', NumAt w' b g u p v q → w.grownBy w' (some b) → w'.heap.size = w.heap.size → wpList Tryz.prog ops Q rest a w') : wpList Tryz.prog ops Q (o :: rest) a w := by
  refine wpList_store_row hgd 48 x y ho b (numC g u p v q) hx hy 48 (numC g0 u0 p0 v0 q0) hN (num_info g u p v q hl hm) (by rw [numC_size, numC_size, h0, hl, h0', hm]) (numC_one _ _ _ _ _) ?_
  rw [hd]
  exact h _ (setRow_heap w b _ _ _ _ hN) ⟨rfl, rfl, rfl, by simp, fun k _ hne => setRow_other w b k _ (by intro e; exact hne (by rw [e]))⟩ (by simp)

theorem WholeAt.new (w : World) (g : Bool) (u : Int) (p : List Int) : WholeAt (w.alloc (.cells (wholeC g u p) 36)) w.heap.size g u p := RowAt.new w _ _
theorem NumAt.new (w : World) (g : Bool) (u : Int) (p : List Int) (v : Int) (q : List Int) : NumAt (w.alloc (.cells (numC g u p v q) 48)) w.heap.size g u p v q := RowAt.new w _ _
theorem WholeAt.neg {w : World} {b : Nat} {g : Bool} {u : Int} {p : List Int} (h : WholeAt w b g u p) : w.cell? ⟨b, 0, none⟩ = some (.bool g) := by
  rw [cell_of_row w b 0 _ _ _ h]; simp [wholeC]
theorem WholeAt.used {w : World} {b : Nat} {g : Bool} {u : Int} {p : List Int} (h : WholeAt w b g u p) : w.cell? ⟨b, 1, none⟩ = some (.int .i64 u) := by
  rw [cell_of_row w b 1 _ _ _ h]; simp [wholeC, natL]
theorem NumAt.neg {w : World} {b : Nat} {g : Bool} {u : Int} {p : List Int} {v : Int} {q : List Int} (h : NumAt w b g u p v q) : w.cell? ⟨b, 0, none⟩ = some (.bool g) := by
  rw [cell_of_row w b 0 _ _ _ h]; simp [numC]
theorem NumAt.used {w : World} {b : Nat} {g : Bool} {u : Int} {p : List Int} {v : Int} {q : List Int} (h : NumAt w b g u p v q) : w.cell? ⟨b, 1, none⟩ = some (.int .i64 u) := by
  rw [cell_of_row w b 1 _ _ _ h]; simp [numC, natL]

/-- The nat within a whole number, the two within a fraction, and the whole part of a fraction, are read whole. -/
theorem load_mid_nat {ops : Array Oper} {rest : List Oper} {o : Oper} {a : Act} {w : World} {Q : Exit → Act → World → Prop} (hgd : o.guard = none) (x : Operand) (ho : o.op = .load 32 x)
    (b off : Nat) (hx : a.eval x = .pointer (some ⟨b, off, none⟩)) (u : Int) (p : List Int) (hr : w.rangeAt b off (natL u p)) (hl : p.length = 204)
    (h : wpList Tryz.prog ops Q rest (a.put o.dst (.agg (natC u p))) w) : wpList Tryz.prog ops Q (o :: rest) a w :=
  wpList_load_mid hgd 32 x ho b off hx (natL u p) _ hr Tryz.underlying32 rfl (by rw [nat_info u p hl, natC_eq]; simp) h
theorem load_mid_whole {ops : Array Oper} {rest : List Oper} {o : Oper} {a : Act} {w : World} {Q : Exit → Act → World → Prop} (hgd : o.guard = none) (x : Operand) (ho : o.op = .load 36 x)
    (b off : Nat) (hx : a.eval x = .pointer (some ⟨b, off, none⟩)) (g : Bool) (u : Int) (p : List Int) (hr : w.rangeAt b off (Value.bool g :: natL u p)) (hl : p.length = 204)
    (h : wpList Tryz.prog ops Q rest (a.put o.dst (.agg (wholeC g u p))) w) : wpList Tryz.prog ops Q (o :: rest) a w :=
  wpList_load_mid hgd 36 x ho b off hx (Value.bool g :: natL u p) _ hr Tryz.underlying36 rfl (by rw [whole_info g u p hl]; simp [wholeC]) h
theorem WholeAt.size {w : World} {b : Nat} {g : Bool} {u : Int} {p : List Int} (h : WholeAt w b g u p) : w.rangeAt b 1 (natL u p) := by
  have h' := h; unfold WholeAt at h'; rw [whole_split] at h'; exact h'.range
theorem NumAt.size {w : World} {b : Nat} {g : Bool} {u : Int} {p : List Int} {v : Int} {q : List Int} (h : NumAt w b g u p v q) : w.rangeAt b 1 (natL u p) := by
  have h' := h; unfold NumAt at h'; rw [num_split1] at h'; exact h'.range
theorem NumAt.whole {w : World} {b : Nat} {g : Bool} {u : Int} {p : List Int} {v : Int} {q : List Int} (h : NumAt w b g u p v q) : w.rangeAt b 0 (Value.bool g :: natL u p) := by
  have h' := h; unfold NumAt at h'; rw [num_split0] at h'; exact h'.range
theorem NumAt.bottom {w : World} {b : Nat} {g : Bool} {u : Int} {p : List Int} {v : Int} {q : List Int} (h : NumAt w b g u p v q) (hl : p.length = 204) : w.rangeAt b 206 (natL v q) := by
  have h' := h; unfold NumAt at h'; rw [num_split2] at h'
  have := h'.range
  rw [List.length_cons, natL_len, hl] at this
  exact this

theorem setCells_grown (b : Nat) : ∀ (vs : List Value) (o : Nat) (w : World), w.grownBy (w.setCells b o vs) (some b) ∧ (w.setCells b o vs).heap.size = w.heap.size
  | [], _, w => ⟨⟨rfl, rfl, rfl, Nat.le_refl _, fun _ _ _ => rfl⟩, rfl⟩
  | v :: r, o, w => by
    rw [World.setCells]
    obtain ⟨h1, h2⟩ := setCells_grown b r (o + 1) (w.setCell ⟨b, o, none⟩ v)
    have hg := grownBy_set (r0 w) (b := b) o v
    exact ⟨grownBy_trans hg h1, by rw [h2, size_setCell]⟩

theorem store_size {ops : Array Oper} {rest : List Oper} {o : Oper} {a : Act} {w : World} {Q : Exit → Act → World → Prop} (hgd : o.guard = none) (x y : Operand) (ho : o.op = .store 32 x y) (hd : o.dst = none)
    (b : Nat) (u : Int) (p : List Int) (hx : a.eval x = .pointer (some ⟨b, 1, none⟩)) (hy : a.eval y = .agg (natC u p)) (g : Bool) (u0 : Int) (p0 : List Int) (hN : WholeAt w b g u0 p0) (h0 : p0.length = 204) (hl : p.length = 204)
    (h : ∀ w', WholeAt w' b g u p → w.grownBy w' (some b) → w'.heap.size = w.heap.size → wpList Tryz.prog ops Q rest a w') : wpList Tryz.prog ops Q (o :: rest) a w := by
  have hN' : RowAt w b 36 ([Value.bool g] ++ natL u0 p0 ++ []).toArray := by rw [← whole_split]; exact hN
  have hth := hN'.there
  rw [natL_len, h0] at hth
  refine wpList_store_mid hgd 32 x y ho b 1 (natC u p) hx hy (by rw [natC_size, hl]; exact hth) (nat_info u p hl) (natC_one _ _) ?_
  rw [hd]
  have hput := RowAt.put (natL u p) 1 w [Value.bool g] (natL u0 p0) [] (by rw [natL_len, natL_len, h0, hl]) rfl hN'
  rw [← whole_split] at hput
  obtain ⟨h1, h2⟩ := setCells_grown b (natL u p) 1 w
  exact h _ hput h1 h2
theorem store_bottom {ops : Array Oper} {rest : List Oper} {o : Oper} {a : Act} {w : World} {Q : Exit → Act → World → Prop} (hgd : o.guard = none) (x y : Operand) (ho : o.op = .store 32 x y) (hd : o.dst = none)
    (b : Nat) (v : Int) (q : List Int) (hx : a.eval x = .pointer (some ⟨b, 206, none⟩)) (hy : a.eval y = .agg (natC v q)) (g : Bool) (u : Int) (p : List Int) (v0 : Int) (q0 : List Int) (hN : NumAt w b g u p v0 q0) (hp : p.length = 204) (h0 : q0.length = 204) (hl : q.length = 204)
    (h : ∀ w', NumAt w' b g u p v q → w.grownBy w' (some b) → w'.heap.size = w.heap.size → wpList Tryz.prog ops Q rest a w') : wpList Tryz.prog ops Q (o :: rest) a w := by
  have hN' : RowAt w b 48 ((Value.bool g :: natL u p) ++ natL v0 q0 ++ []).toArray := by rw [← num_split2]; exact hN
  have hth := hN'.there
  rw [natL_len, h0, List.length_cons, natL_len, hp] at hth
  refine wpList_store_mid hgd 32 x y ho b 206 (natC v q) hx hy (by rw [natC_size, hl]; exact hth) (nat_info v q hl) (natC_one _ _) ?_
  rw [hd]
  have hput := RowAt.put (natL v q) 206 w (Value.bool g :: natL u p) (natL v0 q0) [] (by rw [natL_len, natL_len, h0, hl]) (by rw [List.length_cons, natL_len, hp]) hN'
  rw [← num_split2] at hput
  obtain ⟨h1, h2⟩ := setCells_grown b (natL v q) 206 w
  exact h _ hput h1 h2

end Go.Proofs.YtmfpnbmfcoahbaaGreatDoor
