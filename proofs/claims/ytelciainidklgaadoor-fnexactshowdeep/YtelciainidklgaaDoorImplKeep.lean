/-
  What impl's keep leaves, whatever is marked.
-/
import Derived.Test.YtelciainidklgaaDoorImplNums
import Derived.Test.YtelciainidklgaaDoorHeapMove
import Derived.Test.YtelciainidklgaaDoorHeapMark
import Derived.Test.YtelciainidklgaaDoorBaseMany
namespace Go.Proofs.YtelciainidklgaaDoor
open Go.RowKit Go.Shelf BL
set_option linter.unusedVariables false
attribute [local go_sem] Oper.semAt_some

/-- The cells with these numbers are laid at the front, as they are: their new numbers, and the cells. -/
def kepL (cs : List Cl) (l : List Nat) : List Int × List Cl := l.foldl (fun s i => (s.1.set i (s.2.length : Int), s.2 ++ [cs.getD i default])) (List.replicate cs.length 0, [])
theorem kepL_snoc (cs : List Cl) (l : List Nat) (x : Nat) : kepL cs (l ++ [x]) = ((kepL cs l).1.set x ((kepL cs l).2.length : Int), (kepL cs l).2 ++ [cs.getD x default]) := by
  unfold kepL; rw [List.foldl_append]; rfl
theorem snoc_of {α : Type} {n : Nat} (l : List α) (h : l.length = n + 1) : ∃ l' x, l = l' ++ [x] ∧ l'.length = n :=
  ⟨l.dropLast, l.getLast (by intro e; rw [e] at h; cases h), (List.dropLast_concat_getLast _).symm, by simp [h]⟩
theorem kepL_map (cs : List Cl) (l : List Nat) : (kepL cs l).2 = l.map (fun i => cs.getD i default) := by
  generalize hn : l.length = n
  induction n generalizing l with
  | zero => rw [List.length_eq_zero_iff.1 hn]; rfl
  | succ n ih =>
    obtain ⟨l', x, rfl, hl⟩ := snoc_of l hn
    rw [kepL_snoc, ih l' hl, List.map_append]; rfl
theorem kepL_len (cs : List Cl) (l : List Nat) : (kepL cs l).1.length = cs.length ∧ (kepL cs l).2.length = l.length := by
  refine ⟨?_, by rw [kepL_map, List.length_map]⟩
  generalize hn : l.length = n
  induction n generalizing l with
  | zero => rw [List.length_eq_zero_iff.1 hn]; simp [kepL]
  | succ n ih =>
    obtain ⟨l', x, rfl, hl⟩ := snoc_of l hn
    rw [kepL_snoc, List.length_set]; exact ih l' hl
/-- What is left of a heap: the marked cells in their order, all named by their new numbers. -/
def keepM (m : Hp) (ms : List Bool) : Hp := ⟨((kepL m.cells (idxTo ms m.cells.length)).2.length : Int), (kepL m.cells (idxTo ms m.cells.length)).2.map (movC (kepL m.cells (idxTo ms m.cells.length)).1), movR (kepL m.cells (idxTo ms m.cells.length)).1 m.roots⟩
theorem idxTo_lt (ms : List Bool) (k i : Nat) (h : i ∈ idxTo ms k) : i < k := List.mem_range.1 (List.mem_filter.1 h).1
theorem getD_all {α : Type} [Inhabited α] {p : α → Bool} {l : List α} (h : l.all p = true) {i : Nat} (hi : i < l.length) : p (l.getD i default) = true := List.all_eq_true.1 h _ (by simp [List.getD, List.getElem?_eq_getElem hi])
theorem kepL_all {p : Cl → Bool} {cs : List Cl} (ms : List Bool) (h : cs.all p = true) {j : Nat} (hj : j < (kepL cs (idxTo ms cs.length)).2.length) : p ((kepL cs (idxTo ms cs.length)).2.getD j default) = true := by
  refine getD_all (l := (kepL cs (idxTo ms cs.length)).2) ?_ hj
  rw [kepL_map, List.all_eq_true]
  intro c hc
  obtain ⟨i, hi, rfl⟩ := List.mem_map.1 hc
  exact getD_all h (idxTo_lt _ _ _ hi)
theorem sndOk_all {h : Hp} (hk : sndOk h = true) : h.cells.length ≤ 200 ∧ h.roots.length ≤ 60 ∧ (0 ≤ h.old ∧ h.old ≤ (h.cells.length : Int)) ∧ h.cells.all (sndC h.cells.length) = true ∧ ∀ i, i < h.roots.length → ∃ r : Nat, h.roots.getD i default = (r : Int) ∧ r < h.cells.length := by
  unfold sndOk at hk
  simp only [Bool.and_eq_true, decide_eq_true_eq] at hk
  refine ⟨hk.1, hk.2.1, hk.2.2.1, hk.2.2.2.1, fun i hi => ?_⟩
  have := List.all_eq_true.1 hk.2.2.2.2 (h.roots.getD i default) (by simp [List.getD, List.getElem?_eq_getElem hi])
  unfold rootOk at this
  simp only [Bool.and_eq_true, decide_eq_true_eq] at this
  exact ⟨(h.roots.getD i default).toNat, by omega, by omega⟩
/-- The parts of a pair that a heap of n cells can hold. -/
theorem sndC_pair {n : Nat} {lf : Bool} {k a b : Int} (h : sndC n (lf, k, a, b) = true) (hp : lf = false) : k = 0 ∧ ∃ A C : Nat, a = (A : Int) ∧ b = (C : Int) ∧ A < n ∧ C < n := by
  subst hp
  unfold sndC rootOk at h
  simp only [Bool.false_eq_true, if_false, Bool.and_eq_true, decide_eq_true_eq] at h
  exact ⟨h.1, a.toNat, b.toNat, by omega, by omega, by omega, by omega⟩
/-- The first j of the cells that stay have their parts' new names. -/
def mixC (to : List Int) (out : List Cl) (j : Nat) : List Cl := (out.take j).map (movC to) ++ out.drop j
theorem mixC_len {to : List Int} {out : List Cl} {j : Nat} : (mixC to out j).length = out.length := by
  unfold mixC; rw [List.length_append, List.length_map, List.length_take, List.length_drop]; omega
theorem mixC_get {to : List Int} {out : List Cl} {j : Nat} (hj : j < out.length) : (mixC to out j).getD j default = out.getD j default := by
  unfold mixC
  have hl : ((out.take j).map (movC to)).length = j := by rw [List.length_map, List.length_take]; omega
  simp only [List.getD]
  rw [List.getElem?_append_right (by omega), hl, Nat.sub_self, List.getElem?_drop, Nat.add_zero]
theorem mixC_set {to : List Int} {out : List Cl} {j : Nat} (hj : j < out.length) : (mixC to out j).set j (movC to (out.getD j default)) = mixC to out (j + 1) := by
  unfold mixC
  have hl : ((out.take j).map (movC to)).length = j := by rw [List.length_map, List.length_take]; omega
  have e : out.getD j default = out[j] := by simp [List.getD, List.getElem?_eq_getElem hj]
  rw [List.set_append_right _ _ (by omega), hl, Nat.sub_self, List.drop_eq_getElem_cons hj, List.set_cons_zero, List.take_succ_eq_append_getElem hj, List.map_append, List.append_assoc, e]; rfl
theorem mixC_leaf {to : List Int} {out : List Cl} {j : Nat} (hj : j < out.length) (h : (out.getD j default).1 = true) : mixC to out (j + 1) = mixC to out j := by
  rw [← mixC_set hj]
  have : movC to (out.getD j default) = (mixC to out j).getD j default := by rw [mixC_get hj]; unfold movC; rw [if_pos h]
  rw [this]
  have hj' : j < (mixC to out j).length := by rw [mixC_len]; exact hj
  have e : (mixC to out j).getD j default = (mixC to out j)[j] := by simp [List.getD, List.getElem?_eq_getElem hj']
  rw [e, List.set_getElem_self]
theorem mixC_all (to : List Int) (out : List Cl) : mixC to out out.length = out.map (movC to) := by unfold mixC; rw [List.take_length, List.drop_length, List.append_nil]
theorem take_set_of {α : Type} (l : List α) (k j : Nat) (c : α) : (l.set j c).take k = (l.take k).set j c := by rw [List.take_set]
theorem MarksAt.kept {W W' : World} {mb off : Nat} {ms : List Bool} {row : Option Nat} (h : MarksAt W mb off ms) (hg : W.grownBy W' row) (hm : mb < W.heap.size) (hr : some mb ≠ row) : MarksAt W' mb off ms := fun i hi => by
  rw [World.cell?_of_block (hg.block mb hm (fun e => hr e))]; exact h i hi
theorem MarksAt.turn {A B : World} {mb off : Nat} {ms : List Bool} {row : Option Nat} {w0 : Nat} (h : MarksAt A mb off ms) (hg : A.grownBy B row) (hr : TurnsN w0 A row) : MarksAt B mb off ms := fun i hi => cell_turn (h i hi) hg hr
theorem MarksAt.alloc {W : World} {mb off : Nat} {ms : List Bool} (h : MarksAt W mb off ms) (hm : mb < W.heap.size) (o : Obj) : MarksAt (W.alloc o) mb off ms := h.kept (grown_alloc W o none) hm (by simp)

/-- Nothing that lay is turned but for some blocks. -/
structure OnlyP (S : Nat → Prop) (w w' : World) : Prop where
  os : w'.os = w.os
  tape : w'.tape = w.tape
  output : w'.output = w.output
  size : w.heap.size ≤ w'.heap.size
  block : ∀ k, k < w.heap.size → ¬ S k → w'.heap[k]? = w.heap[k]?
theorem OnlyP.of_below {S : Nat → Prop} {w w' : World} (h : Below w.heap.size w w') : OnlyP S w w' := ⟨h.os, h.tape, h.output, h.size, fun k hk _ => h.block k hk⟩
theorem OnlyP.grown {S : Nat → Prop} {w A B : World} {row : Option Nat} (h : OnlyP S w A) (hg : A.grownBy B row) (hr : ∀ r, row = some r → w.heap.size ≤ r ∨ S r) : OnlyP S w B :=
  ⟨hg.os.trans h.os, hg.tape.trans h.tape, hg.output.trans h.output, Nat.le_trans h.size hg.size, fun k hk hS => by
    rw [hg.block k (Nat.lt_of_lt_of_le hk h.size) (fun e => ?_)]
    · exact h.block k hk hS
    · rcases hr k e.symm with h1 | h1
      · omega
      · exact hS h1⟩
theorem OnlyP.turn {S : Nat → Prop} {w A B : World} {row : Option Nat} {w0 : Nat} (h : OnlyP S w A) (hg : A.grownBy B row) (hr : TurnsN w0 A row) (h0 : w.heap.size ≤ w0) : OnlyP S w B :=
  h.grown hg (fun r e => .inl (Nat.le_trans h0 (hr r e).1))
theorem OnlyP.belowB {S : Nat → Prop} {w w' a : World} {B : Nat} (hg : OnlyP S w w') (h : Below B a w) (hB : B ≤ w.heap.size) (hS : ∀ k, S k → B ≤ k) : Below B a w' :=
  h.trans ⟨hg.os, hg.tape, hg.output, hg.size, fun k hk => hg.block k (by omega) (fun e => by have := hS k e; omega)⟩
/-- The blocks of a heap's own memory. -/
def hpBlocks (hb : Nat) (v1 v2 : Value) (k : Nat) : Prop := k = hb ∨ v1.ownBlock = some k ∨ v2.ownBlock = some k

theorem flat_int (l : List Int) : l.flatMap intL = l.map (Value.int .i64) := by
  induction l with
  | nil => rfl
  | cons a l ih => rw [List.flatMap_cons, ih, List.map_cons]; rfl
/-- The roots, the first j of them named anew. -/
def mixR (to rs : List Int) (j : Nat) : List Int := movR to (rs.take j) ++ rs.drop j
theorem movR_len (to rs : List Int) : (movR to rs).length = rs.length := by simp [movR]
theorem mixR_len {to rs : List Int} {j : Nat} (hj : j ≤ rs.length) : (mixR to rs j).length = rs.length := by
  unfold mixR; rw [List.length_append, movR_len, List.length_take, List.length_drop]; omega
theorem mixR_get {to rs : List Int} {j : Nat} (hj : j < rs.length) : ((mixR to rs j).flatMap intL)[j]? = some (.int .i64 (rs.getD j default)) := by
  rw [flat_int, List.getElem?_map]
  unfold mixR
  have hl : (movR to (rs.take j)).length = j := by rw [movR_len, List.length_take]; omega
  rw [List.getElem?_append_right (by omega), hl, Nat.sub_self, List.getElem?_drop, Nat.add_zero]
  simp [List.getD, List.getElem?_eq_getElem hj]
theorem mixR_set {to rs : List Int} {j : Nat} (hj : j < rs.length) : ((mixR to rs j).flatMap intL).set j (.int .i64 (to.getD (rs.getD j default).toNat default)) = (mixR to rs (j + 1)).flatMap intL := by
  rw [flat_int, flat_int, ← List.map_set]
  congr 1
  unfold mixR
  have hl : (movR to (rs.take j)).length = j := by rw [movR_len, List.length_take]; omega
  rw [List.set_append_right _ _ (by omega), hl, Nat.sub_self, List.drop_eq_getElem_cons hj, List.set_cons_zero, movR_take hj, List.append_assoc]; rfl
/-- What holds while the roots are named anew: j of them have been. -/
def CoR (hb T B n k : Nat) (rest : List Value) (o1 o2 : Option Addr) (c1 c2 : Nat) (to : List Int) (l6 : List Cl) (w : World) (D : Nat) (rs : List Int) (r j : Nat) (W : World) : Prop :=
  (RowAt W hb T (.int .i64 (k : Int) :: .slice o1 k c1 :: .slice o2 r c2 :: rest).toArray ∧ Boxed W w.heap.size 81 (.pointer (some ⟨hb, 0, none⟩)) ∧ Boxed W (w.heap.size + 2) 23 (.slice (some ⟨w.heap.size + 1, 0, none⟩) n n) ∧ RecAt W (w.heap.size + 1) 3 intL to) ∧
  W.ownsRow B 3 1 (.slice o2 r c2) r ((mixR to rs j).flatMap intL) ∧ W.ownsRow B 99 4 (.slice o1 n c1) n (List.flatMap cellL l6) ∧ OnlyP (hpBlocks hb (.slice o1 n c1) (.slice o2 r c2)) w W ∧ W.heap[D]? = some (.deferred (some []))
theorem own_put {V : World} {D B n s : Nat} {T : TypeId} {v : Value} {xs : List Value} {o o' : Obj} (h : V.ownsRow B T s v n xs) (hK : V.heap[D]? = some o) (ho : o.isCells = false) : (V.putObj D o').ownsRow B T s v n xs :=
  ⟨h.1, h.2.imp id fun ⟨g, cap, cur, h1, h2, h3, h4⟩ => ⟨g, cap, cur, h1, h2, row_put h3 hK ho, h4⟩⟩
/-- What holds while the cells' parts are named anew: j of them have been. -/
def CoK (hb T B n k : Nat) (rest : List Value) (o1 o2 : Option Addr) (c1 c2 : Nat) (to : List Int) (out : List Cl) (w : World) (D : Nat) (rs : List Int) (r j : Nat) (W : World) : Prop :=
  (RowAt W hb T (.int .i64 (k : Int) :: .slice o1 k c1 :: .slice o2 r c2 :: rest).toArray ∧ Boxed W w.heap.size 81 (.pointer (some ⟨hb, 0, none⟩)) ∧ Boxed W (w.heap.size + 2) 23 (.slice (some ⟨w.heap.size + 1, 0, none⟩) n n) ∧ RecAt W (w.heap.size + 1) 3 intL to) ∧
  W.ownsRow B 3 1 (.slice o2 r c2) r (rs.flatMap intL) ∧ (∃ l : List Cl, l.length = n ∧ l.take k = mixC to out j ∧ W.ownsRow B 99 4 (.slice o1 n c1) n (l.flatMap cellL)) ∧ OnlyP (hpBlocks hb (.slice o1 n c1) (.slice o2 r c2)) w W ∧ W.heap[D]? = some (.deferred (some []))
theorem CoK.keep {hb T B n k : Nat} {rest : List Value} {o1 o2 : Option Addr} {c1 c2 : Nat} {to : List Int} {out : List Cl} {w : World} {D : Nat} {rs : List Int} {r j : Nat} {W : World} (h : CoK hb T B n k rest o1 o2 c1 c2 to out w D rs r j W) (o : Obj) : CoK hb T B n k rest o1 o2 c1 c2 to out w D rs r j (W.alloc o) := by
  obtain ⟨⟨a1, a2, a3, a4⟩, b1, ⟨l, l1, l2, l3⟩, d, e⟩ := h
  exact ⟨⟨a1.old _, a2.alloc _, a3.alloc _, RowAt.old a4 _⟩, b1.alloc _, ⟨l, l1, l2, l3.alloc _⟩, d.grown (grown_alloc W o none) (fun r e => by cases e), (Below.heap_alloc _ _ _ (Array.getElem?_eq_some_iff.1 e).1).trans e⟩
/-- The slots of a round of keep. -/
def coAct (hb N mb off kc bm bh n : Nat) (o : Option Addr) (c1 : Nat) (x : Nat) (lf : Bool) (kk a c : Int) (cb : Nat) : Act := ⟨#[.pointer (some ⟨hb, 0, none⟩), .slice (some ⟨mb, off, none⟩) n kc, .pointer (some ⟨N, 0, none⟩), undef, .pointer (some ⟨N + 1 + 1, 0, none⟩), .pointer (some ⟨N + 1 + 1 + 1, 0, none⟩), .int .i64 (x : Int), .pointer (some ⟨cb, 0, none⟩), undef, undef, undef, undef, .pointer (some ⟨hb, 0, none⟩), .pointer (some ⟨hb, 0, none⟩), .pointer (some ⟨hb, 1, none⟩), .slice o n c1, .int .i64 (n : Int), .slice (some ⟨N + 1, 0, none⟩) n n, .pointer (some ⟨hb, 0, none⟩), .slice (some ⟨mb, off, none⟩) n kc, .func (.func 107) #[] #[.pointer (some ⟨bm, 0, none⟩), .pointer (some ⟨bh, 0, none⟩)], .int .i64 (x : Int), .agg #[.bool lf, .int .i64 kk, .int .i64 a, .int .i64 c], undef, undef, undef, undef, undef, undef, undef, undef, undef, undef, undef, undef, undef, undef, undef, undef, undef, undef, undef, undef, undef, undef, undef, undef, undef, undef, undef, undef, undef, undef, undef, undef, undef, undef, undef, undef, undef, undef, undef, undef, undef, undef, undef, undef, undef, undef, undef, undef, undef, undef, undef, undef, undef, undef, undef, undef, undef, undef, undef, undef, undef, undef, undef, undef, undef, undef, undef, undef, undef, undef, undef, undef, undef, undef, undef, undef, undef, undef, undef, undef, undef, undef, undef, undef], []⟩
/-- What holds between two rounds of collect. -/
def CoI (m : Hp) (ms : List Bool) (w : World) (hb T B n : Nat) (rest : List Value) (o1 o2 : Option Addr) (c1 c2 : Nat) (mb off kc bm bh : Nat) (pre : List Nat) (W : World) : Prop :=
  (Boxed W (w.heap.size + 3) 3 (.int .i64 (pre.length : Int)) ∧ RecAt W (w.heap.size + 1) 3 intL (kepL m.cells pre).1 ∧ Boxed W (w.heap.size + 2) 23 (.slice (some ⟨w.heap.size + 1, 0, none⟩) n n) ∧ Boxed W w.heap.size 81 (.pointer (some ⟨hb, 0, none⟩))) ∧
  (RowAt W hb T (.int .i64 m.old :: .slice o1 n c1 :: .slice o2 m.roots.length c2 :: rest).toArray ∧ W.ownsRow B 99 4 (.slice o1 n c1) n ((laidL m.cells (kepL m.cells pre).2).flatMap cellL) ∧ W.ownsRow B 3 1 (.slice o2 m.roots.length c2) m.roots.length (m.roots.flatMap intL)) ∧
  (Boxed W bm 109 (.slice (some ⟨mb, off, none⟩) n kc) ∧ Boxed W bh 81 (.pointer (some ⟨hb, 0, none⟩)) ∧ MarksAt W mb off ms) ∧
  OnlyP (hpBlocks hb (.slice o1 n c1) (.slice o2 m.roots.length c2)) w W
theorem CoI.turn {m : Hp} {ms : List Bool} {w : World} {hb T B n : Nat} {rest : List Value} {o1 o2 : Option Addr} {c1 c2 mb off kc bm bh : Nat} {pre : List Nat} {X Y : World} {row : Option Nat} {w0 : Nat} (h : CoI m ms w hb T B n rest o1 o2 c1 c2 mb off kc bm bh pre X) (hg : X.grownBy Y row) (hr : TurnsN w0 X row) (h0 : w.heap.size ≤ w0) : CoI m ms w hb T B n rest o1 o2 c1 c2 mb off kc bm bh pre Y := by
  obtain ⟨⟨a1, a2, a3, a4⟩, ⟨b1, b2, b3⟩, ⟨d1, d2, d3⟩, e⟩ := h
  exact ⟨⟨row_turn a1 hg hr, row_turn a2 hg hr, row_turn a3 hg hr, row_turn a4 hg hr⟩, ⟨row_turn b1 hg hr, own_turn b2 hg hr, own_turn b3 hg hr⟩, ⟨row_turn d1 hg hr, row_turn d2 hg hr, d3.turn hg hr⟩, e.turn hg hr h0⟩
theorem CoI.need {m : Hp} {ms : List Bool} {w : World} {hb T B n : Nat} {rest : List Value} {o1 o2 : Option Addr} {c1 c2 mb off kc bm bh : Nat} {pre : List Nat} {X : World} (hn : n = m.cells.length) (h : CoI m ms w hb T B n rest o1 o2 c1 c2 mb off kc bm bh pre X) : NeedO bm bh hb mb off kc o1 n n c1 m.cells ms pre X := by
  obtain ⟨_, ⟨b1, b2, b3⟩, ⟨d1, d2, d3⟩, _⟩ := h
  refine ⟨⟨d1.cell, d2.cell, by rw [cell_of_row X _ _ _ _ _ b1]; rfl⟩, d3, fun i hi _ hp => ?_⟩
  have hpl : pre.length ≤ i := by rw [hp]; exact idxTo_len ms i
  have hol : (kepL m.cells pre).2.length = pre.length := (kepL_len m.cells pre).2
  have hll : (laidL m.cells (kepL m.cells pre).2).length = n := by rw [laidL_len (by omega), hn]
  have hin : InR X (.slice o1 n c1) cellL 4 (laidL m.cells (kepL m.cells pre).2) := OwnR.inR (l := laidL m.cells (kepL m.cells pre).2) (by rw [OwnR, hll]; exact b2) cellL_len
  have hne : laidL m.cells (kepL m.cells pre).2 ≠ [] := by intro e; rw [e] at hll; simp at hll; omega
  obtain ⟨o', cap', e, h⟩ := hin
  cases e
  obtain ⟨g, rfl, _, hc⟩ := h hne
  exact ⟨g, rfl, fun j u hu => hc i j u (by omega) (by rw [laidL_get (by omega)]; exact hu)⟩
theorem CoI.keep {m : Hp} {ms : List Bool} {w : World} {hb T B n : Nat} {rest : List Value} {o1 o2 : Option Addr} {c1 c2 mb off kc bm bh : Nat} {pre : List Nat} {X : World} (h : CoI m ms w hb T B n rest o1 o2 c1 c2 mb off kc bm bh pre X) (hm : mb < X.heap.size) (o : Obj) : CoI m ms w hb T B n rest o1 o2 c1 c2 mb off kc bm bh pre (X.alloc o) := by
  obtain ⟨⟨a1, a2, a3, a4⟩, ⟨b1, b2, b3⟩, ⟨d1, d2, d3⟩, e⟩ := h
  exact ⟨⟨a1.alloc _, RowAt.old a2 _, a3.alloc _, a4.alloc _⟩, ⟨b1.old _, b2.alloc _, b3.alloc _⟩, ⟨d1.alloc _, d2.alloc _, d3.alloc hm _⟩, e.grown (grown_alloc X o none) (fun r e => by cases e)⟩
theorem late_round {ops : Array Oper} {Q : Exit → Act → World → Prop} {a : Act} {w : World} {id l n : Nat} (late : List Nat) (S : World → Prop) (hm : Tryd.prog.follows .mixedOrders = true) (hd : noDefer ops = true)
    (h : wpAnyL Tryd.prog .any ops (Calm Q) late S ops.size (Array.replicate ops.size false) a w.drew) : (Code.region id ops true).wpIn (Fence.wide.inRound l) n Tryd.prog Q a w :=
  wpIn_mono (region_round hm hd (fun ⟨_, _, h⟩ => h) (wpAny_of_late _ _ _ _ h)) Calm.imp
theorem many_round {ops : Array Oper} {Q : Exit → Act → World → Prop} {a : Act} {w : World} {id l n : Nat} (ps : List (Nat × (World → Prop))) (S : World → Prop) (hm : Tryd.prog.follows .mixedOrders = true) (hd : noDefer ops = true)
    (h : wpAnyM Tryd.prog .any ops (Calm Q) ps S ops.size (Array.replicate ops.size false) a w.drew) : (Code.region id ops true).wpIn (Fence.wide.inRound l) n Tryd.prog Q a w :=
  wpIn_mono (region_round hm hd (fun ⟨_, _, h⟩ => h) (wpAny_of_many _ _ _ _ h)) Calm.imp
theorem many_wide {ops : Array Oper} {Q : Exit → Act → World → Prop} {a : Act} {w : World} {id n : Nat} (ps : List (Nat × (World → Prop))) (S : World → Prop) (hm : Tryd.prog.follows .mixedOrders = true)
    (h : wpAnyM Tryd.prog .any ops (NoPanic Q) ps S ops.size (Array.replicate ops.size false) a w.drew) : (Code.region id ops true).wpIn Fence.wide n Tryd.prog Q a w :=
  wpIn_wide.2 (wp_region_noPanic (wp_region_any hm (wpAny_of_many _ _ _ _ h)))
theorem elem_cells : Tryd.prog.underlying 29 = some (.slice (Tryd.prog.elem 29)) := by kernel_rfl
theorem size_elem : ∀ w, (sizeOf (Tryd.prog.elem 29)).run Tryd.prog w = .ok 4 w := fun w => by
  have h : (Tryd.prog.info? (Tryd.prog.elem 29)).map (·.size) = some 4 := by kernel_rfl
  cases hq : Tryd.prog.info? (Tryd.prog.elem 29) with
  | none => simp [hq] at h
  | some i =>
    have hs : i.size = 4 := by simpa [hq] using h
    simp [sizeOf, typeInfo, hq, hs]
/-- A row's tail, and its head, as operations. -/
theorem run_tail {o : Oper} {a : Act} {w : World} (x y : Operand) (ho : o.op = .slice 29 x (some y) none none) (ad : Option Addr) (n c k : Nat) (hx : a.eval x = .slice ad n c) (hy : a.eval y = .int .i64 (k : Int)) (hk : k ≤ n) :
    (execOp a.eval o).run Tryd.prog w = .ok (.value (sliced ad k n c 4)) w := by
  have h := run_slice_l (P := Tryd.prog) (w := w) 29 ad n c elem_cells .i64 (k : Int) (by omega) (by omega)
  rw [size_elem] at h
  unfold execOp
  simp only [ho, hx, hy, Option.map_some, Option.map_none, Sem.run_bind, run_sliceAt_slice _ _ _ _ _ _ elem_cells, h, Result.andThen_ok, Sem.run_pure, Int.toNat_natCast]
theorem run_head {o : Oper} {a : Act} {w : World} (x y : Operand) (ho : o.op = .slice 29 x none (some y) none) (ad : Option Addr) (n c k : Nat) (hx : a.eval x = .slice ad n c) (hy : a.eval y = .int .i64 (k : Int)) (hk : k ≤ c) :
    (execOp a.eval o).run Tryd.prog w = .ok (.value (sliced ad 0 k c 4)) w := by
  have h := run_slice_h (P := Tryd.prog) (w := w) 29 ad n c elem_cells .i64 (k : Int) (by omega) (by omega)
  rw [size_elem] at h
  unfold execOp
  simp only [ho, hx, hy, Option.map_some, Option.map_none, Sem.run_bind, run_sliceAt_slice _ _ _ _ _ _ elem_cells, h, Result.andThen_ok, Sem.run_pure, Int.toNat_natCast]
theorem clear_wp {op : Oper} {a : Act} {w : World} {K : Act → World → Prop} {Q : Exit → Act → World → Prop} (x : Operand) (ho : op.op = .call { callee := .builtin .clear, args := #[x], argTypes := #[29] }) (hd : op.dst = none) (v : Value) (hx : a.eval x = v) (w' : World)
    (hr : (Builtin.clear_ #[29] 0 #[v]).run Tryd.prog w = .ok (.tuple #[]) w') (h : K a w') : op.wp Tryd.prog a w K Q := by
  have hr' : ∀ ty, (Builtin.clear_ #[29] ty #[v]).run Tryd.prog w = .ok (.tuple #[]) w' := fun ty => hr
  unfold Oper.wp execOp
  simp only [ho, resolve, invoke, builtin, Sem.run_bind, Sem.run_pure, Result.andThen_ok, List.map_toArray, List.map_cons, List.map_nil, hx, hr']
  have e : a.put op.dst (.tuple #[]) = a := by rw [hd]; rfl
  show K (a.put op.dst _) _
  rw [e]
  exact h
theorem late_wide {ops : Array Oper} {Q : Exit → Act → World → Prop} {a : Act} {w : World} {id n : Nat} (late : List Nat) (S : World → Prop) (hm : Tryd.prog.follows .mixedOrders = true)
    (h : wpAnyL Tryd.prog .any ops (NoPanic Q) late S ops.size (Array.replicate ops.size false) a w.drew) : (Code.region id ops true).wpIn Fence.wide n Tryd.prog Q a w :=
  wpIn_wide.2 (late_begin late S hm h)
set_option maxRecDepth 100000 in
set_option maxHeartbeats 4000000 in
theorem keep_any (m : Hp) (hok : sndOk m = true) (ms : List Bool) (mb off kc : Nat) (hml : ms.length = m.cells.length) (hb T B : Nat) (rest : List Value) (v1 v2 : Value) (w : World) (hT1 : T ≠ 99) (hT2 : T ≠ 3) (hR : RowAt w hb T (.int .i64 m.old :: v1 :: v2 :: rest).toArray)
    (h1 : w.ownsRow B 99 4 v1 m.cells.length (m.cells.flatMap cellL)) (h2 : w.ownsRow B 3 1 v2 m.roots.length (m.roots.flatMap intL)) (hMk : MarksAt w mb off ms) (hmb : mb < w.heap.size) (hmg : v1.ownBlock ≠ some mb) :
    Calls Tryd.prog 67 #[.pointer (some ⟨hb, 0, none⟩), .slice (some ⟨mb, off, none⟩) m.cells.length kc] w fun e w' => e = .returned (.tuple #[]) ∧ (∃ v1', RowAt w' hb T (.int .i64 (keepM m ms).old :: v1' :: v2 :: rest).toArray ∧ OwnR w' B v1' 99 cellL 4 (keepM m ms).cells ∧ OwnR w' B v2 3 intL 1 (keepM m ms).roots ∧ v1'.ownBlock = v1.ownBlock) ∧ OnlyP (hpBlocks hb v1 v2) w w' := by
  obtain ⟨hl1, hl2, _, hcl, hrt⟩ := sndOk_all hok
  obtain ⟨o1, c1, e1⟩ := own_formX h1
  obtain ⟨o2, c2, e2⟩ := own_formX h2
  subst e1 e2
  have hbl := RowAt.lt hR
  obtain ⟨n, hn⟩ : ∃ n, n = m.cells.length := ⟨_, rfl⟩
  have HN := hideT' hn
  rw [← hn] at hl1 h1 hR hml hcl hmg ⊢
  have hmk := make_int n (by omega)
  obtain ⟨wA, hwA⟩ : ∃ wA, wA = (((w.alloc (.cells #[.pointer (some ⟨hb, 0, none⟩)] 81)).alloc (.cells ((List.replicate n (0 : Int)).flatMap intL).toArray 3)).alloc (.cells #[.slice (some ⟨w.heap.size + 1, 0, none⟩) n n] 23)).alloc (.cells #[.int .i64 0] 3) := ⟨_, rfl⟩
  have a0 : Boxed wA w.heap.size 81 (.pointer (some ⟨hb, 0, none⟩)) := by rw [hwA]; exact (((Boxed.new w _ _).alloc _).alloc _).alloc _
  have a1 : RecAt wA (w.heap.size + 1) 3 intL (List.replicate n 0) := by
    rw [hwA]
    have := RowAt.new (w.alloc (.cells #[.pointer (some ⟨hb, 0, none⟩)] 81)) 3 ((List.replicate n (0 : Int)).flatMap intL).toArray
    rw [World.size_alloc] at this
    exact RowAt.old (RowAt.old this _) _
  have a2 : Boxed wA (w.heap.size + 2) 23 (.slice (some ⟨w.heap.size + 1, 0, none⟩) n n) := by
    rw [hwA]
    have := Boxed.new ((w.alloc (.cells #[.pointer (some ⟨hb, 0, none⟩)] 81)).alloc (.cells ((List.replicate n (0 : Int)).flatMap intL).toArray 3)) 23 (.slice (some ⟨w.heap.size + 1, 0, none⟩) n n)
    simp only [World.size_alloc] at this
    exact this.alloc _
  have a3 : Boxed wA (w.heap.size + 3) 3 (.int .i64 0) := by
    rw [hwA]
    have := Boxed.new (((w.alloc (.cells #[.pointer (some ⟨hb, 0, none⟩)] 81)).alloc (.cells ((List.replicate n (0 : Int)).flatMap intL).toArray 3)).alloc (.cells #[.slice (some ⟨w.heap.size + 1, 0, none⟩) n n] 23)) 3 (.int .i64 0)
    simp only [World.size_alloc] at this
    exact this
  have aB : Below w.heap.size w wA := by rw [hwA]; exact ((((Below.refl _ w).alloc (Nat.le_refl _) _).alloc (by simp) _).alloc (by simp; omega) _).alloc (by simp; omega) _
  have aS : wA.heap.size = w.heap.size + 4 := by rw [hwA]; simp
  have hc1 : w.cell? ⟨hb, 1, none⟩ = some (.slice o1 n c1) := by rw [cell_of_row w _ _ _ _ _ hR]; rfl
  have HA := hideT' (And.intro a0 (And.intro a1 (And.intro a2 (And.intro a3 aB))))
  have HAS := hideT' aS
  have HWA := hideT' hwA
  have HR := hideT' hR
  have H1 := hideT' h1
  have H2 := hideT' h2
  have HRT := hideT' hrt
  have HCL := hideT' hcl
  have HMK := hideT' hMk
  have HMG := hideT' hmg
  clear hn a0 a1 a2 a3 aB aS hwA h1 h2 hrt hcl hR hMk hmg
  refine (callsIn_wide (n := 3)).1 ?_
  refine callsIn_of_wp_marks Tryd.func67 rfl trivial ?_ rfl
  simp only [Tryd.ntmps67, List.size_toArray, List.length_cons, List.length_nil, Nat.reduceAdd, Nat.reduceSub, Array.replicate_succ, Array.replicate_zero, List.push_toArray, List.append_toArray, List.nil_append, List.cons_append]
  gi_wp2
  clear hmk hc1
  rw [← HWA.out]
  refine ⟨trivial, ?_⟩
  gi_at_call 86
  refine (callsIn_wide.2 (only_any _ _ _ _ _ wA)).mono ?_
  rintro e w3 ⟨rfl, hw3⟩
  have hwAs := HAS.out
  have hB3 : Below wA.heap.size wA w3 := by rw [hw3]; exact ((Below.refl _ _).alloc (Nat.le_refl _) _).alloc (by simp) _
  have hs3 : w3.heap.size = w.heap.size + 6 := by rw [hw3]; simp only [World.size_alloc]; omega
  rw [hwAs]
  have hI0 : CoI m ms w hb T B n rest o1 o2 c1 c2 mb off kc (w.heap.size + 5) (w.heap.size + 4) [] w3 := by
    obtain ⟨a0, a1, a2, a3, aB⟩ := HA.out
    have hB03 := aB.trans (hB3.mono (by omega))
    refine ⟨⟨(hB3.block _ (by omega)).trans a3, ?_, (hB3.block _ (by omega)).trans a2, (hB3.block _ (by omega)).trans a0⟩, ⟨HR.out.below hB03 hbl, ?_, OwnR.below (l := m.roots) H2.out hB03 (Nat.le_refl _)⟩, ⟨?_, ?_, HMK.out.below hB03 hmb⟩, OnlyP.of_below hB03⟩
    · have : (kepL m.cells []).1 = List.replicate n 0 := by rw [HN.out]; rfl
      rw [this]; exact (hB3.block _ (by omega)).trans a1
    · have : laidL m.cells (kepL m.cells []).2 = m.cells := rfl
      rw [this]
      have := OwnR.below (l := m.cells) (by rw [OwnR, ← HN.out]; exact H1.out) hB03 (Nat.le_refl _)
      rw [OwnR, ← HN.out] at this
      exact this
    · have := Boxed.new (wA.alloc (.cells #[.pointer (some ⟨hb, 0, none⟩)] 81)) 109 (.slice (some ⟨mb, off, none⟩) n kc)
      rw [World.size_alloc] at this
      rw [show w.heap.size + 5 = wA.heap.size + 1 by omega, hw3]; exact this
    · rw [show w.heap.size + 4 = wA.heap.size by omega, hw3]; exact (Boxed.new _ _ _).alloc _
  have HI0 := hideT' hI0
  have H2LT : Hid (∀ g, (Value.slice o2 m.roots.length c2).ownBlock = some g → g < w.heap.size) := fun g e => (H2.out.lt g e).2
  have HGL : Hid (∀ g, (Value.slice o1 n c1).ownBlock = some g → g < w.heap.size) := fun g e => (H1.out.lt g e).2
  have hseq := only_seq 2 (by omega) m.cells ms n n (by omega) hml (Nat.le_refl _) (w.heap.size + 5) (w.heap.size + 4) hb mb off kc c1 o1
  have HSEQ := hideT' hseq
  clear hI0 hw3 hB3 hseq
  gi_wp2
  refine range_any (n := 3) (gf := 107) (lb := #[.pointer (some ⟨w.heap.size + 5, 0, none⟩), .pointer (some ⟨w.heap.size + 4, 0, none⟩)]) (by rfl) (enters_of Tryd.func107 (by kernel_rfl) rfl) (encC m.cells) (fun x => rfl) _ _ _ HSEQ.out
    (CoI m ms w hb T B n rest o1 o2 c1 c2 mb off kc (w.heap.size + 5) (w.heap.size + 4)) (fun s A B row h hg hr => h.turn hg hr (by omega)) (fun s A h => h.need HN.out) HI0.out
    (fun pre x c W => ∃ lf kk a cc cb, (lf, kk, a, cc) = m.cells.getD x default ∧ c = coAct hb w.heap.size mb off kc (w.heap.size + 5) (w.heap.size + 4) n o1 c1 x lf kk a cc cb ∧ RowAt W cb 99 #[.bool lf, .int .i64 kk, .int .i64 a, .int .i64 cc] ∧ w.heap.size + 5 < cb ∧ CoI m ms w hb T B n rest o1 o2 c1 c2 mb off kc (w.heap.size + 5) (w.heap.size + 4) pre W) ?ax ?assign ?body ?done
  case ax =>
    rintro s x c A B row ⟨lf, kk, a, cc, cb, h1, h2, h3, h4, h5⟩ hg hr
    exact ⟨lf, kk, a, cc, cb, h1, h2, row_turn h3 hg hr, h4, h5.turn hg hr (by omega)⟩
  case assign =>
    intro l pre x W K hNx hI hK
    obtain ⟨d, hd⟩ : ∃ d, d = m.cells.getD x default := ⟨_, rfl⟩
    obtain ⟨lf, kk, a, cc⟩ := d
    have hzc := zero_cell.1
    have HD := hideT' hd
    have HI := hideT' hI
    have HK := hideT' hK
    rw [encC_eq hd]
    have hmW : mb < W.heap.size := by have := HI.out.2.2.1.1.lt; omega
    clear hd hI hK hNx
    gi_wp2
    exact HK.out _ _ ⟨lf, kk, a, cc, W.heap.size, HD.out, rfl, RowAt.new _ _ _, HI.out.2.2.1.1.lt, HI.out.keep hmW _⟩ (KeepsOthers.alloc W _)
  case body =>
    rintro l pre x c W hNx ⟨lf, kk, a, cc, cb, hd, rfl, hR7, hcb, hI⟩
    unfold coAct
    have hpl : pre.length ≤ x := by rw [hNx.2.2]; exact idxTo_len ms x
    have hxn : x < n := hNx.1
    have HOL : Hid ((kepL m.cells pre).2.length = pre.length) := (kepL_len m.cells pre).2
    have HTL : Hid ((kepL m.cells pre).1.length = n) := by unfold Hid; rw [(kepL_len m.cells pre).1, HN.out]
    have HLL : Hid ((laidL m.cells (kepL m.cells pre).2).length = n) := by unfold Hid; rw [laidL_len (by rw [HOL.out, ← HN.out]; omega), HN.out]
    obtain ⟨g, hgo⟩ : ∃ g, o1 = some ⟨g, 0, none⟩ := by
      rcases hI.2.1.2.1.2 with ⟨e, _⟩ | ⟨g, cap, cur, e, _⟩
      · cases e; omega
      · cases e; exact ⟨g, rfl⟩
    subst hgo
    have hgw := HGL.out g rfl
    have HCI := hideT' hI
    have HR7 := hideT' hR7
    have HDD := hideT' hd
    have hmany : (pre.length : Int) < (n : Int) := by omega
    have hxi : (x : Int) < (n : Int) := by omega
    have r0 : W.cell? ⟨cb, 0, none⟩ = some (.bool lf) := by rw [cell_of_row W _ _ _ _ _ hR7]; rfl
    have hbd := hI.2.2.1.1.lt
    clear hI hR7 hd hNx
    have HMV : Hid (m.cells.getD x default = (lf, kk, a, cc)) := by unfold Hid; rw [← HDD.out]
    have HKW : Hid (KeepsOthers W W) := KeepsOthers.refl W
    have HC8 := hideT' (And.intro HCI.out HR7.out)
    gi_wp2
    obtain ⟨⟨a1, a2, a3, a4⟩, ⟨b1, b2, b3⟩, ⟨d1, d2, d3⟩, dF⟩ := HC8.out.1
    have hc8 := HC8.out.2
    have hS : (Boxed W.drew w.heap.size 81 (.pointer (some ⟨hb, 0, none⟩)) ∧ RowAt W.drew hb T (.int .i64 m.old :: .slice (some ⟨g, 0, none⟩) n c1 :: .slice o2 m.roots.length c2 :: rest).toArray) ∧ (Boxed W.drew (w.heap.size + 3) 3 (.int .i64 (pre.length : Int)) ∧ Boxed W.drew (w.heap.size + 2) 23 (.slice (some ⟨w.heap.size + 1, 0, none⟩) n n)) ∧ RowAt W.drew cb 99 #[.bool lf, .int .i64 kk, .int .i64 a, .int .i64 cc] := ⟨⟨a4, b1⟩, ⟨a1, a3⟩, hc8⟩
    refine held_round (fun w' => (Boxed w' w.heap.size 81 (.pointer (some ⟨hb, 0, none⟩)) ∧ RowAt w' hb T (.int .i64 m.old :: .slice (some ⟨g, 0, none⟩) n c1 :: .slice o2 m.roots.length c2 :: rest).toArray) ∧ (Boxed w' (w.heap.size + 3) 3 (.int .i64 (pre.length : Int)) ∧ Boxed w' (w.heap.size + 2) 23 (.slice (some ⟨w.heap.size + 1, 0, none⟩) n n)) ∧ RowAt w' cb 99 #[.bool lf, .int .i64 kk, .int .i64 a, .int .i64 cc]) (by kernel_rfl) (by kernel_rfl) ?_
    refine held_valS 0 (some 23) rfl rfl (by kernel_rfl) (by kernel_rfl) (by kernel_rfl) calm_put rfl (.pointer (some ⟨hb, 0, none⟩)) (fun w' h => run_cell1 (.tmp 2) 81 rfl ⟨w.heap.size, 0, none⟩ rfl _ Tryd.underlying81 rfl h.1.1.cell) hS ?_
    simp only [Act.put, List.setIfInBounds_toArray, List.set_cons_zero, List.set_cons_succ]
    refine held_val 1 (some 24) rfl rfl (by kernel_rfl) (by kernel_rfl) (by kernel_rfl) calm_put rfl (.pointer (some ⟨hb, 0, none⟩)) (fun _ => by go_simp) hS ?_
    simp only [Act.put, List.setIfInBounds_toArray, List.set_cons_zero, List.set_cons_succ]
    refine held_val 2 (some 25) rfl rfl (by kernel_rfl) (by kernel_rfl) (by kernel_rfl) calm_put rfl (.pointer (some ⟨hb, 1, none⟩)) (fun _ => by go_simp) hS ?_
    simp only [Act.put, List.setIfInBounds_toArray, List.set_cons_zero, List.set_cons_succ]
    refine held_valS 3 (some 26) rfl rfl (by kernel_rfl) (by kernel_rfl) (by kernel_rfl) calm_put rfl (.slice (some ⟨g, 0, none⟩) n c1) (fun w' h => run_cell1 (.tmp 25) 29 rfl ⟨hb, 1, none⟩ rfl _ Tryd.underlying29 rfl (by rw [cell_of_row w' _ _ _ _ _ h.1.2]; rfl)) hS ?_
    simp only [Act.put, List.setIfInBounds_toArray, List.set_cons_zero, List.set_cons_succ]
    refine held_valS 4 (some 27) rfl rfl (by kernel_rfl) (by kernel_rfl) (by kernel_rfl) calm_put rfl (.int .i64 (pre.length : Int)) (fun w' h => run_cell1 (.tmp 5) 3 rfl ⟨w.heap.size + 3, 0, none⟩ rfl _ Tryd.underlying3 rfl h.2.1.1.cell) hS ?_
    simp only [Act.put, List.setIfInBounds_toArray, List.set_cons_zero, List.set_cons_succ]
    refine held_valS 5 (some 28) rfl rfl (by kernel_rfl) (by kernel_rfl) (by kernel_rfl) calm_put rfl (.slice (some ⟨w.heap.size + 1, 0, none⟩) n n) (fun w' h => run_cell1 (.tmp 4) 23 rfl ⟨w.heap.size + 2, 0, none⟩ rfl _ Tryd.underlying23 rfl h.2.1.2.cell) hS ?_
    simp only [Act.put, List.setIfInBounds_toArray, List.set_cons_zero, List.set_cons_succ]
    refine held_val 6 (some 29) rfl rfl (by kernel_rfl) (by kernel_rfl) (by kernel_rfl) calm_put rfl (.int .i64 (x : Int)) (fun _ => by go_simp) hS ?_
    simp only [Act.put, List.setIfInBounds_toArray, List.set_cons_zero, List.set_cons_succ]
    refine held_valS 7 (some 30) rfl rfl (by kernel_rfl) (by kernel_rfl) (by kernel_rfl) calm_put rfl (.agg #[.bool lf, .int .i64 kk, .int .i64 a, .int .i64 cc]) (fun w' h => run_loadRow (.tmp 7) 99 rfl cb rfl _ _ h.2.2 Tryd.underlying99 zero_cell.2) hS ?_
    simp only [Act.put, List.setIfInBounds_toArray, List.set_cons_zero, List.set_cons_succ]
    refine held_valS 8 (some 31) rfl rfl (by kernel_rfl) (by kernel_rfl) (by kernel_rfl) calm_put rfl (.int .i64 (pre.length : Int)) (fun w' h => run_cell1 (.tmp 5) 3 rfl ⟨w.heap.size + 3, 0, none⟩ rfl _ Tryd.underlying3 rfl h.2.1.1.cell) hS ?_
    simp only [Act.put, List.setIfInBounds_toArray, List.set_cons_zero, List.set_cons_succ]
    refine held_val 9 (some 32) rfl rfl (by kernel_rfl) (by kernel_rfl) (by kernel_rfl) calm_put rfl (.pointer (some ⟨g, pre.length * 4, none⟩)) (fun _ => by go_simp) hS ?_
    simp only [Act.put, List.setIfInBounds_toArray, List.set_cons_zero, List.set_cons_succ]
    refine held_step 10 (by kernel_rfl) rfl rfl fun K10 hK10 => ?_
    have hb2 : World.ownsRow W.drew B 99 4 (.slice (some ⟨g, 0, none⟩) (laidL m.cells (kepL m.cells pre).2).length c1) (laidL m.cells (kepL m.cells pre).2).length ((laidL m.cells (kepL m.cells pre).2).flatMap cellL) := by rw [HLL.out]; exact b2
    refine own_rec_wp (X := Cl) 99 _ _ rfl rfl cellL 4 cellL_len cellL_one zero_cell.2 g pre.length (m.cells.getD x default) rfl (by rw [HMV.out]; rfl) B c1 _ hb2 (by rw [HLL.out]; omega) ?_
    intro w10 hO10 hg10 hs10
    rw [HLL.out, ← HOL.out, laidL_set _ (by rw [HOL.out, ← HN.out]; omega)] at hO10
    have hgl := b2.lt g rfl
    have a1' := Boxed.kept (W := W.drew) a1 hg10 (fun e => own_row_apart (by decide) b2 a1 e.symm)
    have a3' := Boxed.kept (W := W.drew) a3 hg10 (fun e => own_row_apart (by decide) b2 a3 e.symm)
    have a4' := Boxed.kept (W := W.drew) a4 hg10 (fun e => own_row_apart (by decide) b2 a4 e.symm)
    have d1' := Boxed.kept (W := W.drew) d1 hg10 (fun e => own_row_apart (by decide) b2 d1 e.symm)
    have d2' := Boxed.kept (W := W.drew) d2 hg10 (fun e => own_row_apart (by decide) b2 d2 e.symm)
    have b1' : RowAt w10 hb T (.int .i64 m.old :: .slice (some ⟨g, 0, none⟩) n c1 :: .slice o2 m.roots.length c2 :: rest).toArray := RowAt.grown (w := W.drew) b1 hg10 (fun e => own_row_apart (Ne.symm hT1) b2 b1 e.symm)
    have a2' : RecAt w10 (w.heap.size + 1) 3 intL (kepL m.cells pre).1 := RowAt.grown (w := W.drew) a2 hg10 (fun e => own_row_apart (by decide) b2 a2 e.symm)
    have d3' : MarksAt w10 mb off ms := MarksAt.kept (W := W.drew) d3 hg10 (show mb < W.heap.size by omega) (by intro e; injection e with e; exact HMG.out (by rw [e]; rfl))
    have hc8' : RowAt w10 cb 99 #[.bool lf, .int .i64 kk, .int .i64 a, .int .i64 cc] := RowAt.grown (w := W.drew) hc8 hg10 (by intro e; injection e; omega)
    have b3' := World.ownsRow.kept (w := W.drew) b3 hg10 (.inr (fun e => own_apart (by decide) b2 b3 g rfl e))
    have hS10 : (Boxed w10 w.heap.size 81 (.pointer (some ⟨hb, 0, none⟩)) ∧ RowAt w10 hb T (.int .i64 m.old :: .slice (some ⟨g, 0, none⟩) n c1 :: .slice o2 m.roots.length c2 :: rest).toArray) ∧ (Boxed w10 (w.heap.size + 3) 3 (.int .i64 (pre.length : Int)) ∧ Boxed w10 (w.heap.size + 2) 23 (.slice (some ⟨w.heap.size + 1, 0, none⟩) n n)) ∧ RowAt w10 cb 99 #[.bool lf, .int .i64 kk, .int .i64 a, .int .i64 cc] := ⟨⟨a4', b1'⟩, ⟨a1', a3'⟩, hc8'⟩
    refine hK10.out _ _ hS10 ?_
    refine held_val 11 (some 33) rfl rfl (by kernel_rfl) (by kernel_rfl) (by kernel_rfl) calm_put rfl (.pointer (some ⟨w.heap.size + 1, x, none⟩)) (fun _ => by go_simp) hS10 ?_
    simp only [Act.put, List.setIfInBounds_toArray, List.set_cons_zero, List.set_cons_succ]
    refine held_step 12 (by kernel_rfl) rfl rfl fun K12 hK12 => ?_
    refine rec1_wp 3 _ _ rfl rfl (fun x : Int => .int .i64 x) (fun _ => rfl) size1_int (w.heap.size + 1) x (pre.length : Int) rfl rfl (kepL m.cells pre).1 a2' (by rw [(kepL_len m.cells pre).1, ← HN.out]; omega) ?_
    intro w12 hD12 hg12 hs12
    have a1'' := a1'.kept hg12 (by intro e; injection e; omega)
    have a3'' := a3'.kept hg12 (by intro e; injection e; omega)
    have a4'' := a4'.kept hg12 (by intro e; injection e; omega)
    have d1'' := d1'.kept hg12 (by intro e; injection e; omega)
    have d2'' := d2'.kept hg12 (by intro e; injection e; omega)
    have b1'' := b1'.grown hg12 (by intro e; injection e; omega)
    have d3'' : MarksAt w12 mb off ms := d3'.kept hg12 (by rw [hs10]; show mb < W.heap.size; omega) (by intro e; injection e; omega)
    have hc8'' := hc8'.grown hg12 (by intro e; injection e; omega)
    have b3'' := b3'.kept hg12 (.inr (fun e => by have := H2LT.out _ e; omega))
    have hO12 := hO10.kept hg12 (.inr (fun e => by simp only [Value.ownBlock] at e; injection e; omega))
    have hS12 : (Boxed w12 w.heap.size 81 (.pointer (some ⟨hb, 0, none⟩)) ∧ RowAt w12 hb T (.int .i64 m.old :: .slice (some ⟨g, 0, none⟩) n c1 :: .slice o2 m.roots.length c2 :: rest).toArray) ∧ (Boxed w12 (w.heap.size + 3) 3 (.int .i64 (pre.length : Int)) ∧ Boxed w12 (w.heap.size + 2) 23 (.slice (some ⟨w.heap.size + 1, 0, none⟩) n n)) ∧ RowAt w12 cb 99 #[.bool lf, .int .i64 kk, .int .i64 a, .int .i64 cc] := ⟨⟨a4'', b1''⟩, ⟨a1'', a3''⟩, hc8''⟩
    refine hK12.out _ _ hS12 ?_
    refine wpAnyH_done (by kernel_rfl) ?_ _
    refine Calm.normal ?_
    have m5 := a1''.cell
    have z5 := a1''.frozen
    have HFIN : Hid (∀ (q : Int) (A : Act), q = ((pre ++ [x]).length : Int) → anyPost (CoI m ms w hb T B n rest (some ⟨g, 0, none⟩) o2 c1 c2 mb off kc (w.heap.size + 5) (w.heap.size + 4) (pre ++ [x])) W .normal A (w12.setCell ⟨w.heap.size + 3, 0, none⟩ (.int .i64 q))) := by
      intro q A hq
      subst hq
      have hg13 := grown_set w12 (w.heap.size + 3) 0 (.int .i64 ((pre ++ [x]).length : Int))
      have k10 : KeepsOthers W w10 := by
        have k := KeepsOthers.of_grownBy (W := W.drew) hg10 (fun j ob e hj => by cases e; obtain ⟨E, hE, _⟩ := own_row b2; rw [show W.drew.heap[g]? = _ from hE] at hj; cases hj; rfl)
        exact ⟨k.size, k.same⟩
      have k12 : KeepsOthers w10 w12 := KeepsOthers.of_grownBy hg12 (fun j ob e hj => by cases e; rw [show w10.heap[w.heap.size + 1]? = _ from a2'] at hj; cases hj; rfl)
      refine ⟨HKW.out.trans (k10.trans (k12.trans (KeepsOthers.setCell _ _ _))), ⟨a1''.set _, ?_, a3''.kept hg13 (by intro e; injection e; omega), a4''.kept hg13 (by intro e; injection e; omega)⟩, ⟨b1''.grown hg13 (by intro e; injection e; omega), ?_, ?_⟩, ⟨d1''.kept hg13 (by intro e; injection e; omega), d2''.kept hg13 (by intro e; injection e; omega), d3''.kept hg13 (by rw [hs12, hs10]; show mb < W.heap.size; omega) (by intro e; injection e; omega)⟩, ?_⟩
      · rw [kepL_snoc, HOL.out]; exact RowAt.grown hD12 hg13 (by intro e; injection e; omega)
      · rw [kepL_snoc]; exact hO12.kept hg13 (.inr (fun e => by simp only [Value.ownBlock] at e; injection e; omega))
      · exact b3''.kept hg13 (.inr (fun e => by have := H2LT.out _ e; omega))
      · exact ((OnlyP.grown (A := W.drew) ⟨dF.os, dF.tape, dF.output, dF.size, dF.block⟩ hg10 (fun r e => by cases e; exact .inr (.inr (.inl rfl)))).grown hg12 (fun r e => by cases e; exact .inl (by omega))).grown hg13 (fun r e => by cases e; exact .inl (by omega))
    gi_wp2
    exact HFIN.out _ _ (by simp only [List.length_append, List.length_singleton]; first | rfl | omega | (unfold wrap64; omega))
  case done =>
    intro D xs W hD hS hI hK
    obtain ⟨⟨a1, a2, a3, a4⟩, ⟨b1, b2, b3⟩, ⟨d1, d2, d3⟩, dF⟩ := hI
    obtain ⟨out, hout⟩ : ∃ out, out = (kepL m.cells xs).2 := ⟨_, rfl⟩
    obtain ⟨to, hto⟩ : ∃ to, to = (kepL m.cells xs).1 := ⟨_, rfl⟩
    have hol : out.length = xs.length := by rw [hout]; exact (kepL_len m.cells xs).2
    have htl : to.length = n := by rw [hto, (kepL_len m.cells xs).1, HN.out]
    have hxn : xs.length ≤ n := by rw [hS]; exact idxTo_len ms n
    have hmv : kepL m.cells (idxTo ms m.cells.length) = (to, out) := by rw [← HN.out, ← hS, hto, hout]
    have hsnd : ∀ j, j < out.length → sndC n (out.getD j default) = true := by
      intro j hj
      have h : out = (kepL m.cells (idxTo ms m.cells.length)).2 := by rw [hmv]
      rw [h] at hj ⊢
      exact kepL_all (p := sndC n) ms HCL.out hj
    rw [← hto] at a2
    rw [← hout] at b2
    obtain ⟨k, hk⟩ : ∃ k, k = xs.length := ⟨_, rfl⟩
    rw [← hk] at a1 hol hxn
    have HMV := hideT' hmv
    have HSND := hideT' hsnd
    have HOL := hideT' hol
    have HTL := hideT' htl
    have hlay : (laidL m.cells out).length = n ∧ (laidL m.cells out).take k = out := by
      refine ⟨by rw [laidL_len (by rw [hol, ← HN.out]; exact hxn), HN.out], ?_⟩
      unfold laidL
      rw [← hol, List.take_append_of_le_length (Nat.le_refl _), List.take_length]
    have HLAY := hideT' hlay
    have hxl : hb < W.heap.size := RowAt.lt b1
    have hkn : (k : Int) ≤ (n : Int) := by omega
    have HK := hideT' hK
    have HALL := hideT' (And.intro (And.intro a2 a3) (And.intro b2 (And.intro b3 dF)))
    have HAPT : Hid ((Value.slice o1 n c1).ownBlock ≠ some hb ∧ (Value.slice o2 m.roots.length c2).ownBlock ≠ some hb) := ⟨own_row_apart (Ne.symm hT1) b2 b1, own_row_apart (Ne.symm hT2) b3 b1⟩
    have HA12 : Hid (∀ g, (Value.slice o1 n c1).ownBlock = some g → (Value.slice o2 m.roots.length c2).ownBlock ≠ some g) := own_apart (by decide) b2 b3
    have a1c := hideT' a1
    have a4c := hideT' a4
    have b1c := hideT' b1
    clear a1 a2 a3 a4 b1 b2 b3 d1 d2 d3 dF hmv hsnd hol htl hlay hto hout hK HI0 hk hS
    gi_wp2
    -- what is behind is emptied
    obtain ⟨sv, hsv⟩ : ∃ sv, sv = sliced o1 k n c1 4 := ⟨_, rfl⟩
    have HSV := hideT' hsv
    clear hsv
    have hS10 : (Boxed W.drew w.heap.size 81 (.pointer (some ⟨hb, 0, none⟩)) ∧ RowAt W.drew hb T (.int .i64 m.old :: .slice o1 n c1 :: .slice o2 m.roots.length c2 :: rest).toArray) ∧ Boxed W.drew (w.heap.size + 3) 3 (.int .i64 (k : Int)) := ⟨⟨a4c.out, b1c.out⟩, a1c.out⟩
    refine held_wide (fun w' => (Boxed w' w.heap.size 81 (.pointer (some ⟨hb, 0, none⟩)) ∧ RowAt w' hb T (.int .i64 m.old :: .slice o1 n c1 :: .slice o2 m.roots.length c2 :: rest).toArray) ∧ Boxed w' (w.heap.size + 3) 3 (.int .i64 (k : Int))) (by kernel_rfl) ?_
    refine held_valS 0 (some 36) rfl rfl (by kernel_rfl) (by kernel_rfl) (by kernel_rfl) noPanic_put rfl (.pointer (some ⟨hb, 0, none⟩)) (fun w' h => run_cell1 (.tmp 2) 81 rfl ⟨w.heap.size, 0, none⟩ rfl _ Tryd.underlying81 rfl h.1.1.cell) hS10 ?_
    simp only [Act.put, List.setIfInBounds_toArray, List.set_cons_zero, List.set_cons_succ]
    refine held_val 1 (some 37) rfl rfl (by kernel_rfl) (by kernel_rfl) (by kernel_rfl) noPanic_put rfl (.pointer (some ⟨hb, 0, none⟩)) (fun _ => by go_simp) hS10 ?_
    simp only [Act.put, List.setIfInBounds_toArray, List.set_cons_zero, List.set_cons_succ]
    refine held_val 2 (some 38) rfl rfl (by kernel_rfl) (by kernel_rfl) (by kernel_rfl) noPanic_put rfl (.pointer (some ⟨hb, 1, none⟩)) (fun _ => by go_simp) hS10 ?_
    simp only [Act.put, List.setIfInBounds_toArray, List.set_cons_zero, List.set_cons_succ]
    refine held_valS 3 (some 39) rfl rfl (by kernel_rfl) (by kernel_rfl) (by kernel_rfl) noPanic_put rfl (.slice o1 n c1) (fun w' h => run_cell1 (.tmp 38) 29 rfl ⟨hb, 1, none⟩ rfl _ Tryd.underlying29 rfl (by rw [cell_of_row w' _ _ _ _ _ h.1.2]; rfl)) hS10 ?_
    simp only [Act.put, List.setIfInBounds_toArray, List.set_cons_zero, List.set_cons_succ]
    refine held_valS 4 (some 40) rfl rfl (by kernel_rfl) (by kernel_rfl) (by kernel_rfl) noPanic_put rfl (.int .i64 (k : Int)) (fun w' h => run_cell1 (.tmp 5) 3 rfl ⟨w.heap.size + 3, 0, none⟩ rfl _ Tryd.underlying3 rfl h.2.cell) hS10 ?_
    simp only [Act.put, List.setIfInBounds_toArray, List.set_cons_zero, List.set_cons_succ]
    refine held_val 5 (some 41) rfl rfl (by kernel_rfl) (by kernel_rfl) (by kernel_rfl) noPanic_put rfl (sv) (fun _ => by rw [HSV.out]; exact run_tail (.tmp 39) (.tmp 40) rfl o1 n c1 k rfl rfl hxn) hS10 ?_
    simp only [Act.put, List.setIfInBounds_toArray, List.set_cons_zero, List.set_cons_succ]
    refine held_step 6 (by kernel_rfl) rfl rfl fun K6 hK6 => ?_
    have hclr : ∃ w6 l6, (Builtin.clear_ #[29] 0 #[sliced o1 k n c1 4]).run Tryd.prog W.drew = .ok (.tuple #[]) w6 ∧ w6.ownsRow B 99 4 (.slice o1 n c1) n (List.flatMap cellL l6) ∧ l6.length = n ∧ l6.take k = out ∧ W.drew.grownBy w6 (Value.slice o1 n c1).ownBlock ∧ w6.heap.size = W.heap.size := by
      have hb2 : W.drew.ownsRow B 99 4 (.slice o1 n c1) n ((laidL m.cells out).flatMap cellL) := HALL.out.2.1
      by_cases hlt : k < n
      · obtain ⟨g, hgo⟩ : ∃ g, o1 = some ⟨g, 0, none⟩ := by
          rcases hb2.2 with ⟨e, _⟩ | ⟨g, cap, cur, e, _⟩
          · cases e; omega
          · cases e; exact ⟨g, rfl⟩
        subst hgo
        obtain ⟨E, _, _, _, hnc, _, _⟩ := own_row hb2
        have h3 : World.ownsRow W.drew B 99 4 (.slice (some ⟨g, 0, none⟩) (laidL m.cells out).length c1) (laidL m.cells out).length ((laidL m.cells out).flatMap cellL) := by rw [HLAY.out.1]; exact hb2
        obtain ⟨w6, h4, h5, h6, h7⟩ := run_clear_cells W.drew 0 B g c1 k (laidL m.cells out) (by rw [HLAY.out.1]; exact hlt) h3 (c1 - k)
        rw [HLAY.out.1] at h4 h5
        refine ⟨w6, _, ?_, h5, ?_, ?_, h6, h7⟩
        · rw [sliced, if_neg (by omega), Option.map_some]
          have : (⟨g, 0, none⟩ : Addr).add (k * 4) = ⟨g, k * 4, none⟩ := by rw [Addr.add_mid]; simp
          rw [this]; exact h4
        · rw [List.length_append, List.length_take, List.length_replicate, HLAY.out.1]; omega
        · rw [HLAY.out.2, List.take_append_of_le_length (by rw [HOL.out]; exact Nat.le_refl _), List.take_of_length_le (by rw [HOL.out]; exact Nat.le_refl _)]
      · have hkn' : k = n := by omega
        subst hkn'
        refine ⟨W.drew, _, ?_, hb2, HLAY.out.1, HLAY.out.2, grown_refl _ _, rfl⟩
        rw [sliced, Nat.sub_self]
        generalize (if c1 = k then o1 else o1.map (·.add (k * 4))) = oo
        cases oo <;> simp [Builtin.clear_, run_underlying Tryd.underlying29]
    obtain ⟨w6, l6, hr6, hO6, hl6, ht6, hg6, hs6⟩ := hclr
    have hne6 : ∀ b t (cs : Array Value), W.heap[b]? = some (.cells cs t (0, 0)) → t ≠ 99 → some b ≠ (Value.slice o1 n c1).ownBlock := fun b t cs h ht e => own_row_apart (Ne.symm ht) HALL.out.2.1 h e.symm
    have p6 : Boxed w6 w.heap.size 81 (.pointer (some ⟨hb, 0, none⟩)) := Boxed.kept (W := W.drew) a4c.out hg6 (hne6 _ _ _ a4c.out (by decide))
    have r6 : RowAt w6 hb T (.int .i64 m.old :: .slice o1 n c1 :: .slice o2 m.roots.length c2 :: rest).toArray := RowAt.grown (w := W.drew) b1c.out hg6 (hne6 _ _ _ b1c.out hT1)
    have m6 : Boxed w6 (w.heap.size + 3) 3 (.int .i64 (k : Int)) := Boxed.kept (W := W.drew) a1c.out hg6 (hne6 _ _ _ a1c.out (by decide))
    have t6 : RecAt w6 (w.heap.size + 1) 3 intL to := RowAt.grown (w := W.drew) HALL.out.1.1 hg6 (hne6 _ _ _ HALL.out.1.1 (by decide))
    have s6 : Boxed w6 (w.heap.size + 2) 23 (.slice (some ⟨w.heap.size + 1, 0, none⟩) n n) := Boxed.kept (W := W.drew) HALL.out.1.2 hg6 (hne6 _ _ _ HALL.out.1.2 (by decide))
    have o6 : w6.ownsRow B 3 1 (.slice o2 m.roots.length c2) m.roots.length (m.roots.flatMap intL) := World.ownsRow.kept (w := W.drew) HALL.out.2.2.1 hg6 (by
      rcases hh : (Value.slice o1 n c1).ownBlock with _ | g
      · rcases hh2 : (Value.slice o2 m.roots.length c2).ownBlock with _ | g2
        · exact .inl rfl
        · exact .inr (by simp)
      · exact .inr (HA12.out g hh))
    have f6 : OnlyP (hpBlocks hb (.slice o1 n c1) (.slice o2 m.roots.length c2)) w w6 := OnlyP.grown (A := W.drew) ⟨HALL.out.2.2.2.os, HALL.out.2.2.2.tape, HALL.out.2.2.2.output, HALL.out.2.2.2.size, HALL.out.2.2.2.block⟩ hg6 (fun r e => .inr (.inr (.inl e)))
    have k6 : w6.heap[D]? = some (.deferred (some [])) := by
      rw [hg6.block D (show D < W.heap.size from (Array.getElem?_eq_some_iff.1 HK.out).1) (fun e => ?_)]
      · exact HK.out
      · rcases HALL.out.2.1.2 with ⟨e1, _⟩ | ⟨g, cap, cur, e1, _, hg, _⟩
        · rw [e1] at e; cases e
        · rw [e1] at e; cases e
          rw [hg] at HK; cases HK.out
    clear hne6 HALL a1c a4c b1c hS10 HK HLAY
    refine clear_wp (.tmp 41) rfl rfl sv rfl w6 (by rw [HSV.out]; exact hr6) ?_
    refine hK6.out _ _ ⟨⟨p6, r6⟩, m6⟩ ?_
    refine wpAnyH_done (by kernel_rfl) ?_ _
    refine NoPanic.normal ?_
    have hkc : k ≤ c1 := by
      rcases hO6.2 with ⟨e, _⟩ | ⟨g, cap, cur, e, _, _, h, _⟩
      · cases e; omega
      · cases e; omega
    have H6 := hideT' (And.intro p6 (And.intro r6 (And.intro m6 (And.intro t6 (And.intro s6 (And.intro o6 (And.intro f6 k6)))))))
    have HO6 := hideT' hO6
    have hxl6 := RowAt.lt r6
    clear p6 r6 m6 t6 s6 o6 f6 k6 hO6 hr6 hg6
    gi_wp2
    -- the row is cut short
    obtain ⟨p6, r6, m6, t6, s6, o6, f6, k6⟩ := H6.out
    have hr11 : RowAt w6.drew hb T (.int .i64 m.old :: .slice o1 n c1 :: .slice o2 m.roots.length c2 :: rest).toArray := r6
    have hS11 : ∀ L, LateAll [(9, fun w' => w'.cell? ⟨hb, 1, none⟩ = some (.slice o1 n c1))] (fun w' => Boxed w' w.heap.size 81 (.pointer (some ⟨hb, 0, none⟩)) ∧ Boxed w' (w.heap.size + 3) 3 (.int .i64 (k : Int))) L w6.drew := fun L => ⟨⟨p6, m6⟩, fun p hp => .inr (by simp only [List.mem_cons, List.not_mem_nil, or_false] at hp; subst hp; show World.cell? _ ⟨hb, _, none⟩ = some _; rw [cell_of_row _ _ _ _ _ _ hr11]; rfl)⟩
    refine many_wide [(9, fun w' => w'.cell? ⟨hb, 1, none⟩ = some (.slice o1 n c1))] (fun w' => Boxed w' w.heap.size 81 (.pointer (some ⟨hb, 0, none⟩)) ∧ Boxed w' (w.heap.size + 3) 3 (.int .i64 (k : Int))) (by kernel_rfl) ?_
    refine many_val 0 (some 42) rfl rfl (by kernel_rfl) (by kernel_rfl) (by kernel_rfl) [] (by kernel_rfl) (by simp) noPanic_put rfl (.pointer (some ⟨hb, 0, none⟩)) (fun w' h => run_cell1 (.tmp 2) 81 rfl ⟨w.heap.size, 0, none⟩ rfl _ Tryd.underlying81 rfl h.1.1.cell) (hS11 _) ?_
    simp only [Act.put, List.setIfInBounds_toArray, List.set_cons_zero, List.set_cons_succ]
    refine many_val 1 (some 43) rfl rfl (by kernel_rfl) (by kernel_rfl) (by kernel_rfl) [] (by kernel_rfl) (by simp) noPanic_put rfl (.pointer (some ⟨hb, 0, none⟩)) (fun w' h => run_cell1 (.tmp 2) 81 rfl ⟨w.heap.size, 0, none⟩ rfl _ Tryd.underlying81 rfl h.1.1.cell) (hS11 _) ?_
    simp only [Act.put, List.setIfInBounds_toArray, List.set_cons_zero, List.set_cons_succ]
    refine many_val 2 (some 44) rfl rfl (by kernel_rfl) (by kernel_rfl) (by kernel_rfl) [] (by kernel_rfl) (by simp) noPanic_put rfl (.pointer (some ⟨hb, 0, none⟩)) (fun _ _ => by go_simp) (hS11 _) ?_
    simp only [Act.put, List.setIfInBounds_toArray, List.set_cons_zero, List.set_cons_succ]
    refine many_val 3 (some 45) rfl rfl (by kernel_rfl) (by kernel_rfl) (by kernel_rfl) [] (by kernel_rfl) (by simp) noPanic_put rfl (.pointer (some ⟨hb, 1, none⟩)) (fun _ _ => by go_simp) (hS11 _) ?_
    simp only [Act.put, List.setIfInBounds_toArray, List.set_cons_zero, List.set_cons_succ]
    refine many_val 4 (some 46) rfl rfl (by kernel_rfl) (by kernel_rfl) (by kernel_rfl) [9] (by kernel_rfl) (by simp) noPanic_put rfl (.slice o1 n c1) (fun w' h => run_cell1 (.tmp 45) 29 rfl ⟨hb, 1, none⟩ rfl _ Tryd.underlying29 rfl (h.2 _ (List.mem_cons_self ..) (by simp))) (hS11 _) ?_
    simp only [Act.put, List.setIfInBounds_toArray, List.set_cons_zero, List.set_cons_succ]
    refine many_val 5 (some 47) rfl rfl (by kernel_rfl) (by kernel_rfl) (by kernel_rfl) [] (by kernel_rfl) (by simp) noPanic_put rfl (.int .i64 (k : Int)) (fun w' h => run_cell1 (.tmp 5) 3 rfl ⟨w.heap.size + 3, 0, none⟩ rfl _ Tryd.underlying3 rfl h.1.2.cell) (hS11 _) ?_
    simp only [Act.put, List.setIfInBounds_toArray, List.set_cons_zero, List.set_cons_succ]
    refine many_val 6 (some 48) rfl rfl (by kernel_rfl) (by kernel_rfl) (by kernel_rfl) [] (by kernel_rfl) (by simp) noPanic_put rfl (sliced o1 0 k c1 4) (fun _ _ => run_head (.tmp 46) (.tmp 47) rfl o1 n c1 k rfl rfl hkc) (hS11 _) ?_
    simp only [Act.put, List.setIfInBounds_toArray, List.set_cons_zero, List.set_cons_succ]
    refine many_val 7 (some 49) rfl rfl (by kernel_rfl) (by kernel_rfl) (by kernel_rfl) [] (by kernel_rfl) (by simp) noPanic_put rfl (.pointer (some ⟨hb, 0, none⟩)) (fun _ _ => by go_simp) (hS11 _) ?_
    simp only [Act.put, List.setIfInBounds_toArray, List.set_cons_zero, List.set_cons_succ]
    refine many_val 8 (some 50) rfl rfl (by kernel_rfl) (by kernel_rfl) (by kernel_rfl) [] (by kernel_rfl) (by simp) noPanic_put rfl (.pointer (some ⟨hb, 1, none⟩)) (fun _ _ => by go_simp) (hS11 _) ?_
    simp only [Act.put, List.setIfInBounds_toArray, List.set_cons_zero, List.set_cons_succ]
    refine many_one 9 (by kernel_rfl) rfl rfl fun K9 hK9 => ?_
    refine store_at_wp 29 _ _ rfl rfl hb 1 (sliced o1 0 k c1 4) rfl rfl size_slcell rfl T _ hr11 (by simp) ?_
    intro w7 r7 hg7 hs7
    have hsl : sliced o1 0 k c1 4 = .slice o1 k c1 := by
      rw [sliced]
      split
      · rfl
      · cases o1 with
        | none => rfl
        | some g =>
          rcases HO6.out.2 with ⟨e, _⟩ | ⟨g', cap, cur, e, _⟩
          · cases e
          · cases e; rfl
    rw [hsl] at r7
    have r7' : RowAt w7 hb T (.int .i64 m.old :: .slice o1 k c1 :: .slice o2 m.roots.length c2 :: rest).toArray := by simpa using r7
    have hb3 := m6.lt
    have p7 : Boxed w7 w.heap.size 81 (.pointer (some ⟨hb, 0, none⟩)) := Boxed.kept (W := w6.drew) p6 hg7 (by intro e; injection e; omega)
    have m7 : Boxed w7 (w.heap.size + 3) 3 (.int .i64 (k : Int)) := Boxed.kept (W := w6.drew) m6 hg7 (by intro e; injection e; omega)
    have t7 : RecAt w7 (w.heap.size + 1) 3 intL to := RowAt.grown (w := w6.drew) t6 hg7 (by intro e; injection e; omega)
    have s7 : Boxed w7 (w.heap.size + 2) 23 (.slice (some ⟨w.heap.size + 1, 0, none⟩) n n) := Boxed.kept (W := w6.drew) s6 hg7 (by intro e; injection e; omega)
    have o7 : w7.ownsRow B 3 1 (.slice o2 m.roots.length c2) m.roots.length (m.roots.flatMap intL) := World.ownsRow.kept (w := w6.drew) o6 hg7 (.inr HAPT.out.2)
    have c7 : w7.ownsRow B 99 4 (.slice o1 n c1) n (List.flatMap cellL l6) := World.ownsRow.kept (w := w6.drew) HO6.out hg7 (.inr HAPT.out.1)
    have f7 : OnlyP (hpBlocks hb (.slice o1 n c1) (.slice o2 m.roots.length c2)) w w7 := OnlyP.grown (A := w6.drew) ⟨f6.os, f6.tape, f6.output, f6.size, f6.block⟩ hg7 (fun r e => .inr (.inl (by injection e with e; exact e.symm)))
    have k7 : w7.heap[D]? = some (.deferred (some [])) := by
      rw [hg7.block D (show D < w6.heap.size from (Array.getElem?_eq_some_iff.1 k6).1) (fun e => ?_)]
      · exact k6
      · injection e with e
        subst e
        rw [show w6.heap[D]? = _ from r6] at k6; cases k6
    refine hK9.out _ _ ⟨⟨p7, m7⟩, fun p hp => by simp only [List.mem_cons, List.not_mem_nil, or_false] at hp; subst hp; exact .inl rfl⟩ ?_
    refine many_done (by kernel_rfl) ?_ _
    refine NoPanic.normal ?_
    rw [hsl]
    -- how many there are
    have hc0 : w7.cell? ⟨hb, 0, none⟩ = some (.int .i64 m.old) := by rw [cell_of_row _ _ _ _ _ _ r7']; rfl
    have hz0 : w7.frozen? ⟨hb, 0, none⟩ = false := frozen_of_row w7 hb 0 _ _ r7'
    have hpc := p7.cell
    have hmc := m7.cell
    obtain ⟨w8, hw8⟩ : ∃ w8, w8 = w7.setCell ⟨hb, 0, none⟩ (.int .i64 (k : Int)) := ⟨_, rfl⟩
    have hg8 : w7.grownBy w8 (some hb) := by rw [hw8]; exact grown_set w7 hb 0 _
    have r8 : RowAt w8 hb T (.int .i64 (k : Int) :: .slice o1 k c1 :: .slice o2 m.roots.length c2 :: rest).toArray := by
      have := heap_setCell_same w7 hb 0 _ _ (.int .i64 (k : Int)) r7'
      rw [hw8]; simpa [RowAt] using this
    have h8c2 : w8.cell? ⟨hb, 2, none⟩ = some (.slice o2 m.roots.length c2) := by rw [cell_of_row _ _ _ _ _ _ r8]; rfl
    have p8 := p7.kept hg8 (by intro e; injection e; omega)
    have p8c := p8.cell
    rw [hw8] at h8c2 p8c
    have HI7 : Hid (CoK hb T B n k rest o1 o2 c1 c2 to out w D m.roots m.roots.length 0 w8) := by
      refine ⟨⟨r8, p8, s7.kept hg8 (by intro e; injection e; omega), RowAt.grown t7 hg8 (by intro e; injection e; omega)⟩, ?_, ⟨l6, hl6, ?_, c7.kept hg8 (.inr HAPT.out.1)⟩, f7.grown hg8 (fun r e => .inr (.inl (by injection e with e; exact e.symm))), ?_⟩
      · exact o7.kept hg8 (.inr HAPT.out.2)
      · rw [ht6]; unfold mixC; simp
      · rw [hg8.block D (Array.getElem?_eq_some_iff.1 k7).1 (fun e => ?_)]
        · exact k7
        · injection e with e
          subst e
          rw [show w7.heap[D]? = _ from r7'] at k7; cases k7
    have h8c1 : w8.cell? ⟨hb, 1, none⟩ = some (.slice o1 k c1) := by rw [cell_of_row _ _ _ _ _ _ r8]; rfl
    have HW8 := hideT' hw8
    rw [hw8] at h8c1
    clear r7 r7' p7 m7 t7 s7 o7 c7 f7 k7 hw8 hg8 r8 p8 hS11 hr11 p6 r6 m6 t6 s6 o6 f6 k6 H6 HO6 hg7 hl6 ht6 h8c2
    gi_wp2
    rw [← HW8.out]
    clear HW8 h8c1 p8c hc0 hz0 hpc hmc
    gi_loopw [60] (fun x wr => ∃ j : Nat, x = .int .i64 (j : Int) ∧ j ≤ k ∧ CoK hb T B n k rest o1 o2 c1 c2 to out w D m.roots m.roots.length j wr) (fun x wr => k + 1 - upN x)
    case atStart => exact ⟨0, by go_num, by omega, HI7.out⟩
    case round =>
      obtain ⟨j, rfl, hj, hCK⟩ := hrel
      clear HI7
      by_cases hltj : (j : Int) < (k : Int)
      · obtain ⟨⟨r8, p8, s8, t8⟩, o8, ⟨l8, hl8, ht8, c8⟩, f8, k8⟩ := id hCK
        have hj' : j < out.length := by rw [HOL.out]; omega
        have hjn : j < l8.length := by omega
        obtain ⟨g, hgo⟩ : ∃ g, o1 = some ⟨g, 0, none⟩ := by
          rcases c8.2 with ⟨e, _⟩ | ⟨g, cap, cur, e, _⟩
          · injection e with _ e2 _; omega
          · injection e with e1 _ _; exact ⟨g, e1⟩
        subst hgo
        have hgl : g < w.heap.size := HGL.out g rfl
        have hsw : w.heap.size ≤ wr.heap.size := f8.size
        obtain ⟨d, hd⟩ : ∃ d, d = out.getD j default := ⟨_, rfl⟩
        have hget : d = l8.getD j default := by
          have h1 : (l8.take k).getD j default = l8.getD j default := by
            simp only [List.getD]
            rw [List.getElem?_take_of_lt (by omega)]
          rw [← h1, ht8, mixC_get hj', hd]
        have hsn := HSND.out j hj'
        rw [← hd] at hsn
        obtain ⟨lf, kk, a, cc⟩ := d
        have hin : InR wr (.slice (some ⟨g, 0, none⟩) n c1) cellL 4 l8 := OwnR.inR (l := l8) (by rw [OwnR, hl8]; exact c8) cellL_len
        obtain ⟨g', e', q0, q1, q2, q3⟩ := InR.cells4 hin hjn hget
        cases e'
        have hzc := zero_cell.1
        have HSN := hideT' hsn
        have HD := hideT' hd
        have HCK := hideT' (hCK.keep (.cells #[.bool lf, .int .i64 kk, .int .i64 a, .int .i64 cc] 99))
        clear r8 p8 s8 t8 o8 c8 f8 k8 hget hsn hd hin hCK hl8 ht8 hjn
        cases lf with
        | true =>
          have HMX : Hid (mixC to out (j + 1) = mixC to out j) := mixC_leaf hj' (by rw [← HD.out])
          gi_wp2
          go_roundw
          case rel =>
            refine ⟨j + 1, by go_num, by omega, ?_⟩
            have := HCK.out
            unfold CoK at this ⊢
            rw [HMX.out]
            exact this
          case measure => simp [upN]; omega
        | false =>
          obtain ⟨hk0, A, C, hA, hC, hAi, hCi⟩ := sndC_pair HSN.out rfl
          subst hk0 hA hC
          obtain ⟨tA, htA⟩ : ∃ t, t = to.getD A default := ⟨_, rfl⟩
          obtain ⟨tC, htC⟩ : ∃ t, t = to.getD C default := ⟨_, rfl⟩
          have HTA := hideT' htA
          have HTC := hideT' htC
          have HMV : Hid (movC to (out.getD j default) = (false, 0, tA, tC)) := by unfold Hid; rw [← HD.out, htA, htC]; rfl
          have hAn : (A : Int) < (n : Int) := by omega
          have hCn : (C : Int) < (n : Int) := by omega
          clear htA htC
          gi_wp2
          obtain ⟨⟨r8, p8, s8, t8⟩, o8, ⟨l8, hl8, ht8, c8⟩, f8, k8⟩ := HCK.out
          obtain ⟨W1, hW1⟩ : ∃ W1, W1 = wr.alloc (.cells #[.bool false, .int .i64 0, .int .i64 (A : Int), .int .i64 (C : Int)] 99) := ⟨_, rfl⟩
          have x8 : RowAt W1 wr.heap.size 99 #[.bool false, .int .i64 0, .int .i64 (A : Int), .int .i64 (C : Int)] := by rw [hW1]; exact RowAt.new _ _ _
          rw [← hW1] at r8 p8 s8 t8 o8 c8 f8 k8 ⊢
          clear hW1
          have hS15 : (Boxed W1.drew w.heap.size 81 (.pointer (some ⟨hb, 0, none⟩)) ∧ RowAt W1.drew hb T (.int .i64 (k : Int) :: .slice (some ⟨g, 0, none⟩) k c1 :: .slice o2 m.roots.length c2 :: rest).toArray) ∧ (Boxed W1.drew (w.heap.size + 2) 23 (.slice (some ⟨w.heap.size + 1, 0, none⟩) n n) ∧ RecAt W1.drew (w.heap.size + 1) 3 intL to) ∧ RowAt W1.drew wr.heap.size 99 #[.bool false, .int .i64 0, .int .i64 (A : Int), .int .i64 (C : Int)] := ⟨⟨p8, r8⟩, ⟨s8, t8⟩, x8⟩
          refine held_wide (fun w' => (Boxed w' w.heap.size 81 (.pointer (some ⟨hb, 0, none⟩)) ∧ RowAt w' hb T (.int .i64 (k : Int) :: .slice (some ⟨g, 0, none⟩) k c1 :: .slice o2 m.roots.length c2 :: rest).toArray) ∧ (Boxed w' (w.heap.size + 2) 23 (.slice (some ⟨w.heap.size + 1, 0, none⟩) n n) ∧ RecAt w' (w.heap.size + 1) 3 intL to) ∧ RowAt w' wr.heap.size 99 #[.bool false, .int .i64 0, .int .i64 (A : Int), .int .i64 (C : Int)]) (by kernel_rfl) ?_
          refine held_valS 0 (some 68) rfl rfl (by kernel_rfl) (by kernel_rfl) (by kernel_rfl) noPanic_put rfl (.pointer (some ⟨hb, 0, none⟩)) (fun w' h => run_cell1 (.tmp 2) 81 rfl ⟨w.heap.size, 0, none⟩ rfl _ Tryd.underlying81 rfl h.1.1.cell) hS15 ?_
          simp only [Act.put, List.setIfInBounds_toArray, List.set_cons_zero, List.set_cons_succ]
          refine held_val 1 (some 69) rfl rfl (by kernel_rfl) (by kernel_rfl) (by kernel_rfl) noPanic_put rfl (.pointer (some ⟨hb, 0, none⟩)) (fun _ => by go_simp) hS15 ?_
          simp only [Act.put, List.setIfInBounds_toArray, List.set_cons_zero, List.set_cons_succ]
          refine held_val 2 (some 70) rfl rfl (by kernel_rfl) (by kernel_rfl) (by kernel_rfl) noPanic_put rfl (.pointer (some ⟨hb, 1, none⟩)) (fun _ => by go_simp) hS15 ?_
          simp only [Act.put, List.setIfInBounds_toArray, List.set_cons_zero, List.set_cons_succ]
          refine held_valS 3 (some 71) rfl rfl (by kernel_rfl) (by kernel_rfl) (by kernel_rfl) noPanic_put rfl (.slice (some ⟨g, 0, none⟩) k c1) (fun w' h => run_cell1 (.tmp 70) 29 rfl ⟨hb, 1, none⟩ rfl _ Tryd.underlying29 rfl (by rw [cell_of_row w' _ _ _ _ _ h.1.2]; rfl)) hS15 ?_
          simp only [Act.put, List.setIfInBounds_toArray, List.set_cons_zero, List.set_cons_succ]
          refine held_val 4 (some 72) rfl rfl (by kernel_rfl) (by kernel_rfl) (by kernel_rfl) noPanic_put rfl (.int .i64 (j : Int)) (fun _ => by go_simp) hS15 ?_
          simp only [Act.put, List.setIfInBounds_toArray, List.set_cons_zero, List.set_cons_succ]
          refine held_valS 5 (some 73) rfl rfl (by kernel_rfl) (by kernel_rfl) (by kernel_rfl) noPanic_put rfl (.slice (some ⟨w.heap.size + 1, 0, none⟩) n n) (fun w' h => run_cell1 (.tmp 4) 23 rfl ⟨w.heap.size + 2, 0, none⟩ rfl _ Tryd.underlying23 rfl h.2.1.1.cell) hS15 ?_
          simp only [Act.put, List.setIfInBounds_toArray, List.set_cons_zero, List.set_cons_succ]
          refine held_val 6 (some 74) rfl rfl (by kernel_rfl) (by kernel_rfl) (by kernel_rfl) noPanic_put rfl (.pointer (some ⟨wr.heap.size, 2, none⟩)) (fun _ => by go_simp) hS15 ?_
          simp only [Act.put, List.setIfInBounds_toArray, List.set_cons_zero, List.set_cons_succ]
          refine held_valS 7 (some 75) rfl rfl (by kernel_rfl) (by kernel_rfl) (by kernel_rfl) noPanic_put rfl (.int .i64 (A : Int)) (fun w' h => run_cell1 (.tmp 74) 3 rfl ⟨wr.heap.size, 2, none⟩ rfl _ Tryd.underlying3 rfl (by rw [cell_of_row w' _ _ _ _ _ h.2.2]; rfl)) hS15 ?_
          simp only [Act.put, List.setIfInBounds_toArray, List.set_cons_zero, List.set_cons_succ]
          refine held_val 8 (some 76) rfl rfl (by kernel_rfl) (by kernel_rfl) (by kernel_rfl) noPanic_put rfl (.pointer (some ⟨w.heap.size + 1, A, none⟩)) (fun _ => by go_simp) hS15 ?_
          simp only [Act.put, List.setIfInBounds_toArray, List.set_cons_zero, List.set_cons_succ]
          refine held_valS 9 (some 77) rfl rfl (by kernel_rfl) (by kernel_rfl) (by kernel_rfl) noPanic_put rfl (.int .i64 tA) (fun w' h => run_cell1 (.tmp 76) 3 rfl ⟨w.heap.size + 1, A, none⟩ rfl _ Tryd.underlying3 rfl (by rw [HTA.out]; exact int_cell h.2.1.2 (by rw [HTL.out]; omega))) hS15 ?_
          simp only [Act.put, List.setIfInBounds_toArray, List.set_cons_zero, List.set_cons_succ]
          refine held_valS 10 (some 78) rfl rfl (by kernel_rfl) (by kernel_rfl) (by kernel_rfl) noPanic_put rfl (.slice (some ⟨w.heap.size + 1, 0, none⟩) n n) (fun w' h => run_cell1 (.tmp 4) 23 rfl ⟨w.heap.size + 2, 0, none⟩ rfl _ Tryd.underlying23 rfl h.2.1.1.cell) hS15 ?_
          simp only [Act.put, List.setIfInBounds_toArray, List.set_cons_zero, List.set_cons_succ]
          refine held_val 11 (some 79) rfl rfl (by kernel_rfl) (by kernel_rfl) (by kernel_rfl) noPanic_put rfl (.pointer (some ⟨wr.heap.size, 3, none⟩)) (fun _ => by go_simp) hS15 ?_
          simp only [Act.put, List.setIfInBounds_toArray, List.set_cons_zero, List.set_cons_succ]
          refine held_valS 12 (some 80) rfl rfl (by kernel_rfl) (by kernel_rfl) (by kernel_rfl) noPanic_put rfl (.int .i64 (C : Int)) (fun w' h => run_cell1 (.tmp 79) 3 rfl ⟨wr.heap.size, 3, none⟩ rfl _ Tryd.underlying3 rfl (by rw [cell_of_row w' _ _ _ _ _ h.2.2]; rfl)) hS15 ?_
          simp only [Act.put, List.setIfInBounds_toArray, List.set_cons_zero, List.set_cons_succ]
          refine held_val 13 (some 81) rfl rfl (by kernel_rfl) (by kernel_rfl) (by kernel_rfl) noPanic_put rfl (.pointer (some ⟨w.heap.size + 1, C, none⟩)) (fun _ => by go_simp) hS15 ?_
          simp only [Act.put, List.setIfInBounds_toArray, List.set_cons_zero, List.set_cons_succ]
          refine held_valS 14 (some 82) rfl rfl (by kernel_rfl) (by kernel_rfl) (by kernel_rfl) noPanic_put rfl (.int .i64 tC) (fun w' h => run_cell1 (.tmp 81) 3 rfl ⟨w.heap.size + 1, C, none⟩ rfl _ Tryd.underlying3 rfl (by rw [HTC.out]; exact int_cell h.2.1.2 (by rw [HTL.out]; omega))) hS15 ?_
          simp only [Act.put, List.setIfInBounds_toArray, List.set_cons_zero, List.set_cons_succ]
          refine held_val 15 (some 83) rfl rfl (by kernel_rfl) (by kernel_rfl) (by kernel_rfl) noPanic_put rfl (.agg #[.bool false, .int .i64 0, .int .i64 tA, .int .i64 tC]) (fun _ => by go_simp) hS15 ?_
          simp only [Act.put, List.setIfInBounds_toArray, List.set_cons_zero, List.set_cons_succ]
          refine held_val 16 (some 84) rfl rfl (by kernel_rfl) (by kernel_rfl) (by kernel_rfl) noPanic_put rfl (.pointer (some ⟨g, j * 4, none⟩)) (fun _ => by go_simp) hS15 ?_
          simp only [Act.put, List.setIfInBounds_toArray, List.set_cons_zero, List.set_cons_succ]
          refine held_step 17 (by kernel_rfl) rfl rfl fun K17 hK17 => ?_
          have hb2 : World.ownsRow W1.drew B 99 4 (.slice (some ⟨g, 0, none⟩) l8.length c1) l8.length (l8.flatMap cellL) := by rw [hl8]; exact c8
          refine own_rec_wp (X := Cl) 99 _ _ rfl rfl cellL 4 cellL_len cellL_one zero_cell.2 g j (false, 0, tA, tC) rfl rfl B c1 l8 hb2 (by omega) ?_
          intro w10 hO10 hg10 hs10
          rw [hl8] at hO10
          have hgb : some hb ≠ some g := fun e => HAPT.out.1 (by rw [e]; rfl)
          have p10 := Boxed.kept (W := W1.drew) p8 hg10 (by intro e; injection e; omega)
          have r10 := RowAt.grown (w := W1.drew) r8 hg10 hgb
          have s10 := Boxed.kept (W := W1.drew) s8 hg10 (by intro e; injection e; omega)
          have t10 : RecAt w10 (w.heap.size + 1) 3 intL to := RowAt.grown (w := W1.drew) t8 hg10 (by intro e; injection e; omega)
          have hsz8 := s8.lt
          have x10 : RowAt w10 wr.heap.size 99 #[.bool false, .int .i64 0, .int .i64 (A : Int), .int .i64 (C : Int)] := RowAt.grown (w := W1.drew) x8 hg10 (by intro e; injection e; omega)
          have o10 := World.ownsRow.kept (w := W1.drew) o8 hg10 (.inr (fun e => HA12.out g rfl e))
          have f10 : OnlyP (hpBlocks hb (.slice (some ⟨g, 0, none⟩) n c1) (.slice o2 m.roots.length c2)) w w10 := OnlyP.grown (A := W1.drew) ⟨f8.os, f8.tape, f8.output, f8.size, f8.block⟩ hg10 (fun r e => .inr (.inr (.inl (by rw [← e]; rfl))))
          have k10 : w10.heap[D]? = some (.deferred (some [])) := by
            rw [hg10.block D (show D < W1.heap.size from (Array.getElem?_eq_some_iff.1 k8).1) (fun e => ?_)]
            · exact k8
            · injection e with e
              subst e
              obtain ⟨E, hE, _⟩ := own_row c8
              rw [show W1.heap[D]? = _ from hE] at k8; cases k8
          refine hK17.out _ _ ⟨⟨p10, r10⟩, ⟨s10, t10⟩, x10⟩ ?_
          refine wpAnyH_done (by kernel_rfl) ?_ _
          refine NoPanic.normal ?_
          have H10 : Hid (CoK hb T B n k rest (some ⟨g, 0, none⟩) o2 c1 c2 to out w D m.roots m.roots.length (j + 1) w10) := by
            refine ⟨⟨r10, p10, s10, t10⟩, o10, ⟨_, by rw [List.length_set]; exact hl8, ?_, hO10⟩, f10, k10⟩
            rw [take_set_of, ht8, ← mixC_set hj', HMV.out]
          clear r8 p8 s8 t8 o8 c8 f8 k8 r10 p10 s10 t10 x10 o10 f10 k10 hO10 hg10 hS15 HCK hb2 x8 q0 q1 q2 q3
          gi_wp2
          go_roundw
          case rel => exact ⟨j + 1, by go_num, by omega, H10.out⟩
          case measure => simp [upN]; omega
      · have hjk : k = j := by omega
        subst hjk
        obtain ⟨⟨r8, p8, s8, t8⟩, o8, ⟨l7, hl7, ht7, c8⟩, f8, k8⟩ := hCK
        have HI8 : Hid (CoR hb T B n k rest o1 o2 c1 c2 to l7 w D m.roots m.roots.length 0 wr) := ⟨⟨r8, p8, s8, t8⟩, o8, c8, f8, k8⟩
        have HL7 : Hid (l7.length = n ∧ l7.take k = out.map (movC to)) := ⟨hl7, by rw [ht7]; have h : k = out.length := HOL.out.symm; rw [h]; exact mixC_all to out⟩
        have h8c2 : wr.cell? ⟨hb, 2, none⟩ = some (.slice o2 m.roots.length c2) := by rw [cell_of_row _ _ _ _ _ _ r8]; rfl
        have p8c := p8.cell
        clear r8 p8 s8 t8 o8 c8 f8 k8 hl7 ht7
        gi_wp2
        clear h8c2 p8c
        gi_loopw [91] (fun x wr => ∃ j : Nat, x = .int .i64 (j : Int) ∧ j ≤ m.roots.length ∧ CoR hb T B n k rest o1 o2 c1 c2 to l7 w D m.roots m.roots.length j wr) (fun x wr => m.roots.length + 1 - upN x)
        case atStart => exact ⟨0, by go_num, by omega, HI8.out⟩
        case round =>
          obtain ⟨j, rfl, hj, ⟨r8, p8, s8, t8⟩, o8, c8, f8, k8⟩ := hrel
          by_cases hltj : (j : Int) < (m.roots.length : Int)
          · have hj' : j < m.roots.length := by omega
            obtain ⟨r, hr, hrl⟩ := HRT.out j hj'
            obtain ⟨g2, hgo⟩ : ∃ g, o2 = some ⟨g, 0, none⟩ := by
              rcases o8.2 with ⟨e, _⟩ | ⟨g, cap, cur, e, _⟩
              · injection e with _ e2 _; omega
              · injection e with e1 _ _; exact ⟨g, e1⟩
            subst hgo
            have hcell : wr.cell? ⟨g2, j, none⟩ = some (.int .i64 (r : Int)) := by
              have := World.ownsRow.cellAt o8 j (by omega)
              rw [mixR_get hj', hr] at this
              exact this
            have hrn : (r : Int) < (n : Int) := by have := HN.out; omega
            have HMX : Hid (((mixR to m.roots j).flatMap intL).set j (.int .i64 (to.getD r default)) = (mixR to m.roots (j + 1)).flatMap intL) := by
              unfold Hid
              have := mixR_set (to := to) hj'
              rw [hr] at this
              exact this
            have H8 := hideT' (And.intro (And.intro r8 (And.intro p8 (And.intro s8 t8))) (And.intro o8 (And.intro c8 (And.intro f8 k8))))
            clear r8 p8 s8 t8 o8 c8 f8 k8 hr hrl HI8
            gi_wp2
            obtain ⟨⟨r8, p8, s8, t8⟩, o8, c8, f8, k8⟩ := H8.out
            have hS16 : (Boxed wr.drew w.heap.size 81 (.pointer (some ⟨hb, 0, none⟩)) ∧ RowAt wr.drew hb T (.int .i64 (k : Int) :: .slice o1 k c1 :: .slice (some ⟨g2, 0, none⟩) m.roots.length c2 :: rest).toArray) ∧ Boxed wr.drew (w.heap.size + 2) 23 (.slice (some ⟨w.heap.size + 1, 0, none⟩) n n) ∧ RecAt wr.drew (w.heap.size + 1) 3 intL to := ⟨⟨p8, r8⟩, s8, t8⟩
            refine held_wide (fun w' => (Boxed w' w.heap.size 81 (.pointer (some ⟨hb, 0, none⟩)) ∧ RowAt w' hb T (.int .i64 (k : Int) :: .slice o1 k c1 :: .slice (some ⟨g2, 0, none⟩) m.roots.length c2 :: rest).toArray) ∧ Boxed w' (w.heap.size + 2) 23 (.slice (some ⟨w.heap.size + 1, 0, none⟩) n n) ∧ RecAt w' (w.heap.size + 1) 3 intL to) (by kernel_rfl) ?_
            refine held_valS 0 (some 96) rfl rfl (by kernel_rfl) (by kernel_rfl) (by kernel_rfl) noPanic_put rfl (.pointer (some ⟨hb, 0, none⟩)) (fun w' h => run_cell1 (.tmp 2) 81 rfl ⟨w.heap.size, 0, none⟩ rfl _ Tryd.underlying81 rfl h.1.1.cell) hS16 ?_
            simp only [Act.put, List.setIfInBounds_toArray, List.set_cons_zero, List.set_cons_succ]
            refine held_val 1 (some 97) rfl rfl (by kernel_rfl) (by kernel_rfl) (by kernel_rfl) noPanic_put rfl (.pointer (some ⟨hb, 0, none⟩)) (fun _ => by go_simp) hS16 ?_
            simp only [Act.put, List.setIfInBounds_toArray, List.set_cons_zero, List.set_cons_succ]
            refine held_val 2 (some 98) rfl rfl (by kernel_rfl) (by kernel_rfl) (by kernel_rfl) noPanic_put rfl (.pointer (some ⟨hb, 2, none⟩)) (fun _ => by go_simp) hS16 ?_
            simp only [Act.put, List.setIfInBounds_toArray, List.set_cons_zero, List.set_cons_succ]
            refine held_valS 3 (some 99) rfl rfl (by kernel_rfl) (by kernel_rfl) (by kernel_rfl) noPanic_put rfl (.slice (some ⟨g2, 0, none⟩) m.roots.length c2) (fun w' h => run_cell1 (.tmp 98) 23 rfl ⟨hb, 2, none⟩ rfl _ Tryd.underlying23 rfl (by rw [cell_of_row w' _ _ _ _ _ h.1.2]; rfl)) hS16 ?_
            simp only [Act.put, List.setIfInBounds_toArray, List.set_cons_zero, List.set_cons_succ]
            refine held_val 4 (some 100) rfl rfl (by kernel_rfl) (by kernel_rfl) (by kernel_rfl) noPanic_put rfl (.int .i64 (j : Int)) (fun _ => by go_simp) hS16 ?_
            simp only [Act.put, List.setIfInBounds_toArray, List.set_cons_zero, List.set_cons_succ]
            refine held_valS 5 (some 101) rfl rfl (by kernel_rfl) (by kernel_rfl) (by kernel_rfl) noPanic_put rfl (.slice (some ⟨w.heap.size + 1, 0, none⟩) n n) (fun w' h => run_cell1 (.tmp 4) 23 rfl ⟨w.heap.size + 2, 0, none⟩ rfl _ Tryd.underlying23 rfl h.2.1.cell) hS16 ?_
            simp only [Act.put, List.setIfInBounds_toArray, List.set_cons_zero, List.set_cons_succ]
            refine held_val 6 (some 102) rfl rfl (by kernel_rfl) (by kernel_rfl) (by kernel_rfl) noPanic_put rfl (.int .i64 (r : Int)) (fun _ => by go_simp) hS16 ?_
            simp only [Act.put, List.setIfInBounds_toArray, List.set_cons_zero, List.set_cons_succ]
            refine held_val 7 (some 103) rfl rfl (by kernel_rfl) (by kernel_rfl) (by kernel_rfl) noPanic_put rfl (.pointer (some ⟨w.heap.size + 1, r, none⟩)) (fun _ => by go_simp) hS16 ?_
            simp only [Act.put, List.setIfInBounds_toArray, List.set_cons_zero, List.set_cons_succ]
            refine held_valS 8 (some 104) rfl rfl (by kernel_rfl) (by kernel_rfl) (by kernel_rfl) noPanic_put rfl (.int .i64 (to.getD r default)) (fun w' h => run_cell1 (.tmp 103) 3 rfl ⟨w.heap.size + 1, r, none⟩ rfl _ Tryd.underlying3 rfl (int_cell h.2.2 (by rw [HTL.out]; omega))) hS16 ?_
            simp only [Act.put, List.setIfInBounds_toArray, List.set_cons_zero, List.set_cons_succ]
            refine held_val 9 (some 105) rfl rfl (by kernel_rfl) (by kernel_rfl) (by kernel_rfl) noPanic_put rfl (.pointer (some ⟨g2, j, none⟩)) (fun _ => by go_simp) hS16 ?_
            simp only [Act.put, List.setIfInBounds_toArray, List.set_cons_zero, List.set_cons_succ]
            refine held_step 10 (by kernel_rfl) rfl rfl fun K10 hK10 => ?_
            have o8' : wr.drew.ownsRow B 3 1 (.slice (some ⟨g2, 0, none⟩) m.roots.length c2) m.roots.length ((mixR to m.roots j).flatMap intL) := o8
            refine own_cell_wp 3 _ _ rfl rfl g2 j (.int .i64 (to.getD r default)) rfl rfl size1_int rfl o8' (by omega) ?_
            intro w10 o10 hg10 hs10
            rw [HMX.out] at o10
            have hg2 := (o8.lt g2 rfl).2
            have hg2w : g2 < w.heap.size := H2LT.out g2 rfl
            have r10 := RowAt.grown (w := wr.drew) r8 hg10 (fun e => HAPT.out.2 (by injection e with e; rw [e]; rfl))
            have p10 := Boxed.kept (W := wr.drew) p8 hg10 (by intro e; injection e; omega)
            have s10 := Boxed.kept (W := wr.drew) s8 hg10 (by intro e; injection e; omega)
            have t10 : RecAt w10 (w.heap.size + 1) 3 intL to := RowAt.grown (w := wr.drew) t8 hg10 (by intro e; injection e; omega)
            have c10 := World.ownsRow.kept (w := wr.drew) c8 hg10 (by
              rcases hh : (Value.slice o1 n c1).ownBlock with _ | g
              · exact .inl rfl
              · exact .inr (fun e => HA12.out g hh (by rw [e]; rfl)))
            have f10 : OnlyP (hpBlocks hb (.slice o1 n c1) (.slice (some ⟨g2, 0, none⟩) m.roots.length c2)) w w10 := OnlyP.grown (A := wr.drew) ⟨f8.os, f8.tape, f8.output, f8.size, f8.block⟩ hg10 (fun r e => .inr (.inr (.inr (by rw [← e]; rfl))))
            have k10 : w10.heap[D]? = some (.deferred (some [])) := by
              rw [hg10.block D (show D < wr.heap.size from (Array.getElem?_eq_some_iff.1 k8).1) (fun e => ?_)]
              · exact k8
              · injection e with e
                subst e
                obtain ⟨E, hE, _⟩ := own_row o8
                rw [show wr.heap[D]? = _ from hE] at k8; cases k8
            refine hK10.out _ _ ⟨⟨p10, r10⟩, s10, t10⟩ ?_
            refine wpAnyH_done (by kernel_rfl) ?_ _
            refine NoPanic.normal ?_
            have H10 : Hid (CoR hb T B n k rest o1 (some ⟨g2, 0, none⟩) c1 c2 to l7 w D m.roots m.roots.length (j + 1) w10) := ⟨⟨r10, p10, s10, t10⟩, o10, c10, f10, k10⟩
            clear r8 p8 s8 t8 o8 c8 f8 k8 o8' r10 p10 s10 t10 c10 f10 k10 o10 hg10 hS16 H8 hcell
            gi_wp2
            go_roundw
            case rel => exact ⟨j + 1, by go_num, by omega, H10.out⟩
            case measure => simp [upN]; omega
          · have hjr : j = m.roots.length := by omega
            subst hjr
            have HMM : Hid (keepM m ms = ⟨(out.length : Int), out.map (movC to), movR to m.roots⟩) := by unfold Hid keepM; rw [HMV.out]
            have hmx : mixR to m.roots m.roots.length = movR to m.roots := by unfold mixR; rw [List.take_length, List.drop_length, List.append_nil]
            rw [hmx] at o8
            have H8 := hideT' (And.intro (And.intro r8 (And.intro p8 (And.intro s8 t8))) (And.intro o8 (And.intro c8 (And.intro f8 k8))))
            clear r8 p8 s8 t8 o8 c8 f8 k8 HI8 hmx
            gi_wp2
            obtain ⟨⟨r8, p8, s8, t8⟩, o8, c8, f8, k8⟩ := H8.out
            have hcut : wr.ownsRow B 99 4 (.slice o1 k c1) k ((out.map (movC to)).flatMap cellL) := by
              rcases c8.2 with ⟨e, _⟩ | ⟨g, cap, cur, e, _⟩
              · cases e
                have hk0 : k = 0 := by omega
                subst hk0
                have : out = [] := List.length_eq_zero_iff.1 HOL.out
                rw [this]; exact World.ownsRow_nil _ _ _ _
              · cases e
                have := own_cut c8 HL7.out.1 hxn
                rwa [HL7.out.2] at this
            refine leave_marks (v := .tuple #[]) k8 (by simp [results, Tryd.results67, go_sem]) ⟨rfl, ⟨.slice o1 k c1, ?_, ?_, ?_, by cases o1 <;> rfl⟩, ?_⟩
            · rw [HMM.out, HOL.out]
              exact row_put r8 k8 rfl
            · rw [HMM.out, OwnR, List.length_map, HOL.out]
              exact own_put hcut k8 rfl
            · rw [HMM.out, OwnR, movR_len]
              exact own_put o8 k8 rfl
            · exact f8.grown (grownBy_putObj' wr D _) (fun r e => .inl (by cases e; omega))
end Go.Proofs.YtelciainidklgaaDoor
