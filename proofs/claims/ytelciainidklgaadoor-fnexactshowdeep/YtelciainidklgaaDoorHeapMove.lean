/-
  What is left of a heap, and rows of records that are owned: written, emptied, cut short.
-/
import Derived.Test.YtelciainidklgaaDoorRoundHeld
import Derived.Test.YtelciainidklgaaDoorSpecReach
import Derived.Lib.SliceRun
namespace Go.Proofs.YtelciainidklgaaDoor
open Go.RowKit BL
set_option linter.unusedVariables false

/-- The cells with these numbers have been moved. -/
def movL (cs : List Cl) (l : List Nat) : List Int × List Cl := l.foldl (fun s i => (s.1.set i (s.2.length : Int), s.2 ++ [movC s.1 (cs.getD i default)])) (List.replicate cs.length 0, [])
theorem movL_snoc (cs : List Cl) (l : List Nat) (x : Nat) : movL cs (l ++ [x]) = ((movL cs l).1.set x ((movL cs l).2.length : Int), (movL cs l).2 ++ [movC (movL cs l).1 (cs.getD x default)]) := by
  unfold movL; rw [List.foldl_append]; rfl
theorem movL_idx (cs : List Cl) (ms : List Bool) (k : Nat) : moveTo cs ms k = movL cs (idxTo ms k) := by
  induction k with
  | zero => rfl
  | succ k ih =>
    rw [moveTo, idxTo_succ]
    cases h : bAt ms k with
    | false => simpa [h] using ih
    | true => simp only [if_true]; rw [movL_snoc, ih]
theorem movL_len (cs : List Cl) (l : List Nat) : (movL cs l).1.length = cs.length ∧ (movL cs l).2.length = l.length := by
  generalize hn : l.length = n
  induction n generalizing l with
  | zero => rw [List.length_eq_zero_iff.1 hn]; exact ⟨by simp [movL], rfl⟩
  | succ n ih =>
    obtain ⟨l', x, rfl⟩ : ∃ l' x, l = l' ++ [x] := ⟨l.dropLast, l.getLast (by intro e; rw [e] at hn; cases hn), (List.dropLast_concat_getLast _).symm⟩
    have := ih l' (by simpa using hn)
    rw [movL_snoc]
    exact ⟨by rw [List.length_set]; exact this.1, by simp [this.2]⟩
/-- The cells in their memory: what has been moved, and what lay behind it. -/
def laidL (cs out : List Cl) : List Cl := out ++ cs.drop out.length
theorem laidL_len {cs out : List Cl} (h : out.length ≤ cs.length) : (laidL cs out).length = cs.length := by simp [laidL]; omega
theorem laidL_set {cs out : List Cl} (c : Cl) (h : out.length < cs.length) : (laidL cs out).set out.length c = laidL cs (out ++ [c]) := by
  unfold laidL
  rw [List.set_append_right _ _ (Nat.le_refl _), Nat.sub_self, List.drop_eq_getElem_cons h, List.set_cons_zero, List.length_append, List.length_singleton, List.append_assoc]; rfl
theorem laidL_get {cs out : List Cl} {i : Nat} (h : out.length ≤ i) : (laidL cs out).getD i default = cs.getD i default := by
  unfold laidL
  simp only [List.getD]
  rw [List.getElem?_append_right h, List.getElem?_drop]
  congr 2; congr 1; omega

/-- A row that is owned, as its block holds it. -/
theorem own_row {w : World} {B g n cap s : Nat} {T : TypeId} {xs : List Value} (h : w.ownsRow B T s (.slice (some ⟨g, 0, none⟩) n cap) n xs) : ∃ E : List Value, RowAt w g T (xs ++ E).toArray ∧ xs.length = n * s ∧ E.length = (cap - n) * s ∧ n ≤ cap ∧ cap ≤ maxLen ∧ B ≤ g := by
  rcases h.2 with ⟨e, _⟩ | ⟨g', cap', cur, e, h1, h2, h3, h4, h5, h6⟩
  · cases e
  · cases e
    refine ⟨cur.toList.drop (n * s), ?_, h.1, ?_, h3, h4, h1⟩
    · unfold RowAt
      rw [← h6, List.take_append_drop]
      exact h2
    · rw [List.length_drop, Array.length_toList, h5, Nat.sub_mul]
theorem own_of_row {w : World} {B g n cap s : Nat} {T : TypeId} {xs E : List Value} (h : RowAt w g T (xs ++ E).toArray) (h1 : xs.length = n * s) (h2 : E.length = (cap - n) * s) (h3 : n ≤ cap) (h4 : cap ≤ maxLen) (hB : B ≤ g) : w.ownsRow B T s (.slice (some ⟨g, 0, none⟩) n cap) n xs := by
  refine ⟨h1, .inr ⟨g, cap, _, rfl, hB, h, h3, h4, ?_, ?_⟩⟩
  · rw [List.size_toArray, List.length_append, h1, h2, ← Nat.add_mul, Nat.add_sub_cancel' h3]
  · show List.take (n * s) (xs ++ E) = xs
    rw [List.take_append_of_le_length (by omega), List.take_of_length_le (by omega)]

/-- A record of an own row is written, as an operation. -/
theorem own_rec_wp {X : Type} [Inhabited X] {op : Oper} {a : Act} {w : World} {K : Act → World → Prop} {Q : Exit → Act → World → Prop} (T : TypeId) (x y : Operand) (ho : op.op = .store T x y) (hd : op.dst = none)
    (f : X → List Value) (c : Nat) (hc : ∀ x, (f x).length = c) (hone : ∀ x, ∀ u ∈ f x, u.oneCell' = true) (hs : (Tryd.prog.info? T).map (·.size) = some c)
    (g i : Nat) (d : X) (hx : a.eval x = .pointer (some ⟨g, i * c, none⟩)) (hy : a.eval y = .agg (f d).toArray) (B cap : Nat) (l : List X) (hO : w.ownsRow B T c (.slice (some ⟨g, 0, none⟩) l.length cap) l.length (l.flatMap f)) (hi : i < l.length)
    (h : ∀ w', w'.ownsRow B T c (.slice (some ⟨g, 0, none⟩) l.length cap) l.length ((l.set i d).flatMap f) → w.grownBy w' (some g) → w'.heap.size = w.heap.size → K a w') : op.wp Tryd.prog a w K Q := by
  obtain ⟨E, hR, h1, h2, h3, h4, h5⟩ := own_row hO
  have hD' : RowAt w g T ((l.take i).flatMap f ++ f (l.getD i default) ++ ((l.drop (i + 1)).flatMap f ++ E)).toArray := by
    have := rec_split f l i hi
    rw [this, List.append_assoc] at hR
    exact hR
  have hlen : ((l.take i).flatMap f).length = i * c := by rw [rec_len f c hc, List.length_take, Nat.min_eq_left (by omega)]
  have hth := RowAt.there hD'
  rw [hlen, hc] at hth
  refine wp_store_mid T x y ho g (i * c) (f d).toArray hx hy (by rw [List.size_toArray, hc]; exact hth) (by rw [List.size_toArray, hc]; exact hs) (by rw [Array.all_eq_true_iff_forall_mem]; intro v hv; exact hone d v (by simpa using hv)) ?_
  have e : a.put op.dst undef = a := by rw [hd]; rfl
  rw [e]
  have hput := RowAt.put (f d) (i * c) w ((l.take i).flatMap f) (f (l.getD i default)) ((l.drop (i + 1)).flatMap f ++ E) (by rw [hc, hc]) hlen hD'
  rw [← List.append_assoc, ← rec_set f l i d hi] at hput
  have hg := set_grown w g (f d) (i * c)
  refine h _ (own_of_row (E := E) (by simpa using hput) (by rw [rec_len f c hc, List.length_set]) h2 h3 h4 h5) (by simpa using hg.1) (by simpa using hg.2)
/-- One cell of an own row is written, as an operation. -/
theorem own_cell_wp {op : Oper} {a : Act} {w : World} {K : Act → World → Prop} {Q : Exit → Act → World → Prop} (ty : TypeId) (x y : Operand) (ho : op.op = .store ty x y) (hd : op.dst = none)
    (b o : Nat) (v : Value) (hx : a.eval x = .pointer (some ⟨b, o, none⟩)) (hy : a.eval y = v) (hi : (Tryd.prog.info? ty).map (·.size) = some 1) (h1 : v.oneCell' = true) {B : Nat} {T : TypeId} {c n cap : Nat} {xs : List Value} (hown : w.ownsRow B T c (.slice (some ⟨b, 0, none⟩) n cap) n xs) (hon : o < n * c)
    (h : ∀ w', w'.ownsRow B T c (.slice (some ⟨b, 0, none⟩) n cap) n (xs.set o v) → w.grownBy w' (some b) → w'.heap.size = w.heap.size → K a w') : op.wp Tryd.prog a w K Q := by
  have hsome : (w.cell? ⟨b, o, none⟩).isSome = true := by
    rw [World.ownsRow.cellAt hown o hon, List.getElem?_eq_getElem (by rw [hown.1]; exact hon)]; rfl
  unfold Oper.wp execOp
  simp only [ho, hx, hy, Instr.storeAt, Instr.sureAddr, Sem.run_bind, Sem.run_pure, Result.andThen_ok, run_storeVar_cell w b o ty v hsome (World.ownsRow.frozenAt hown o) hi h1]
  have e : a.put op.dst undef = a := by rw [hd]; rfl
  show K (a.put op.dst undef) _
  rw [e]
  exact h _ (World.ownsRow.stored hown o v).1 (World.ownsRow.stored hown o v).2 (by simp)

theorem zeros_cells (n : Nat) : (Builtin.zeroCells #[.bool false, .int .i64 0, .int .i64 0, .int .i64 0] n).toList = (List.replicate n ((false, 0, 0, 0) : Cl)).flatMap cellL := by
  have := made_rec cellL 4 cellL_len #[.bool false, .int .i64 0, .int .i64 0, .int .i64 0] ((false, 0, 0, 0) : Cl) rfl n
  have h2 := congrArg Array.toList this
  refine Eq.trans ?_ h2
  unfold Builtin.zeroCells madeCells
  rfl
/-- The cells behind the first k of an own row are emptied, as a run. -/
theorem run_clear_cells (w : World) (ty : TypeId) (B g cap k : Nat) (l : List Cl) (hk : k < l.length) (hO : w.ownsRow B 99 4 (.slice (some ⟨g, 0, none⟩) l.length cap) l.length (l.flatMap cellL)) (c : Nat) :
    ∃ w', (Builtin.clear_ #[29] ty #[.slice (some ⟨g, k * 4, none⟩) (l.length - k) c]).run Tryd.prog w = .ok (.tuple #[]) w' ∧ w'.ownsRow B 99 4 (.slice (some ⟨g, 0, none⟩) l.length cap) l.length ((l.take k ++ List.replicate (l.length - k) ((false, 0, 0, 0) : Cl)).flatMap cellL) ∧ w.grownBy w' (some g) ∧ w'.heap.size = w.heap.size := by
  obtain ⟨E, hR, h1, h2, h3, h4, h5⟩ := own_row hO
  obtain ⟨Z, hZ⟩ : ∃ Z, Z = (List.replicate (l.length - k) ((false, 0, 0, 0) : Cl)).flatMap cellL := ⟨_, rfl⟩
  have hZl : Z.length = (l.length - k) * 4 := by rw [hZ, rec_len cellL 4 cellL_len, List.length_replicate]
  have hsp : l.flatMap cellL = (l.take k).flatMap cellL ++ (l.drop k).flatMap cellL := by rw [← List.flatMap_append, List.take_append_drop]
  have hAl : ((l.take k).flatMap cellL).length = k * 4 := by rw [rec_len cellL 4 cellL_len, List.length_take, Nat.min_eq_left (by omega)]
  have hCl : ((l.drop k).flatMap cellL).length = Z.length := by rw [hZl, rec_len cellL 4 cellL_len, List.length_drop]
  have hD' : RowAt w g 99 ((l.take k).flatMap cellL ++ (l.drop k).flatMap cellL ++ E).toArray := by rw [← hsp]; exact hR
  have hth := RowAt.there hD'
  rw [hAl, hCl] at hth
  have hput := RowAt.put Z (k * 4) w _ _ E hCl hAl hD'
  have hg := set_grown w g Z (k * 4)
  refine ⟨w.setCells g (k * 4) Z, ?_, own_of_row (E := E) (by rw [List.flatMap_append, ← hZ]; exact hput) (by rw [rec_len cellL 4 cellL_len, List.length_append, List.length_take, List.length_replicate]; congr 1; omega) h2 h3 h4 h5, hg.1, hg.2⟩
  have hst := run_storeCells_cells (P := Tryd.prog) g (k * 4) Z 0 w (fun j hj => by simpa using (hth j hj).1) (fun j hj => by simpa using (hth j hj).2) (by rw [hZ]; intro v hv; obtain ⟨x, hx, hv⟩ := List.mem_flatMap.1 hv; exact cellL_one x v hv)
  simp only [Nat.add_zero] at hst
  obtain ⟨m, hm⟩ : ∃ m, l.length - k = m + 1 := ⟨l.length - k - 1, by omega⟩
  have hzc : (Builtin.zeroCells #[.bool false, .int .i64 0, .int .i64 0, .int .i64 0] (m + 1)).toList = Z := by rw [zeros_cells, hZ, hm]
  rw [hm]
  simp only [Builtin.clear_, List.getElem?_toArray, List.getElem?_cons_zero, Sem.run_bind, run_underlying Tryd.underlying29, Result.andThen_ok, zero_cell.1, Value.cells, hzc, hst, Sem.run_pure]
/-- An own row is cut short. -/
theorem own_cut {w : World} {B g n cap k : Nat} {l : List Cl} (hO : w.ownsRow B 99 4 (.slice (some ⟨g, 0, none⟩) n cap) n (l.flatMap cellL)) (hl : l.length = n) (hk : k ≤ n) : w.ownsRow B 99 4 (.slice (some ⟨g, 0, none⟩) k cap) k ((l.take k).flatMap cellL) := by
  obtain ⟨E, hR, h1, h2, h3, h4, h5⟩ := own_row hO
  have hsp : l.flatMap cellL = (l.take k).flatMap cellL ++ (l.drop k).flatMap cellL := by rw [← List.flatMap_append, List.take_append_drop]
  rw [hsp, List.append_assoc] at hR
  refine own_of_row hR (by rw [rec_len cellL 4 cellL_len, List.length_take]; congr 1; omega) ?_ (by omega) h4 h5
  rw [List.length_append, rec_len cellL 4 cellL_len, List.length_drop, h2, hl, ← Nat.add_mul]
  congr 1; omega
theorem own_apart {w : World} {B B' n n' s s' : Nat} {T T' : TypeId} {v v' : Value} {xs xs' : List Value} (hT : T ≠ T') (h : w.ownsRow B T s v n xs) (h' : w.ownsRow B' T' s' v' n' xs') : ∀ g, v.ownBlock = some g → v'.ownBlock ≠ some g := fun g e e' => by
  rcases h.2 with ⟨rfl, _⟩ | ⟨g1, cap, cur, rfl, _, hg, _⟩
  · cases e
  · rcases h'.2 with ⟨rfl, _⟩ | ⟨g2, cap2, cur2, rfl, _, hg2, _⟩
    · cases e'
    · cases e
      cases e'
      rw [hg] at hg2
      cases hg2
      exact hT rfl
theorem own_row_apart {w : World} {B n s b : Nat} {T T' : TypeId} {v : Value} {xs : List Value} {cs : Array Value} (hT : T ≠ T') (h : w.ownsRow B T s v n xs) (h' : w.heap[b]? = some (.cells cs T' (0, 0))) : v.ownBlock ≠ some b := fun e => by
  rcases h.2 with ⟨rfl, _⟩ | ⟨g1, cap, cur, rfl, _, hg, _⟩
  · cases e
  · cases e
    rw [hg] at h'
    cases h'
    exact hT rfl
end Go.Proofs.YtelciainidklgaaDoor
