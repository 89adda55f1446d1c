/-
  Rows of records in memory, whatever a record holds: their cells, one written, new ones, and such as came in as arguments.
-/
import Derived.Test.YtmfpnbmfcoahbaaDoorBaseRow
import Derived.Test.YtmfpnbmfcoahbaaDoorBaseHeld
import Derived.Deep.MidRow
import Derived.Laws.MakeOwn
import Derived.Deep.WholeRow
import Derived.WalkMore
import Derived.Deep.LoopGhost
import Derived.RegionTactic
import Derived.OwnWalk
import Derived.Laws.ResultCell
namespace Go.Proofs.YtmfpnbmfcoahbaaDoor
open Go.RowKit
set_option linter.unusedVariables false

theorem rec_len {X : Type} (f : X → List Value) (c : Nat) (hc : ∀ x, (f x).length = c) (l : List X) : (l.flatMap f).length = l.length * c := by
  induction l with
  | nil => simp
  | cons d l ih => rw [List.flatMap_cons, List.length_append, ih, hc, List.length_cons, Nat.add_mul, Nat.one_mul, Nat.add_comm]
theorem rec_get {X : Type} [Inhabited X] (f : X → List Value) (c : Nat) (hc : ∀ x, (f x).length = c) : ∀ (l : List X) (i j : Nat), i < l.length → j < c → (l.flatMap f)[i * c + j]? = (f (l.getD i default))[j]?
  | [], i, j, hi, hj => by simp at hi
  | d :: l, 0, j, hi, hj => by
    rw [List.flatMap_cons, List.getElem?_append_left (by rw [hc]; omega)]; simp
  | d :: l, i + 1, j, hi, hj => by
    rw [List.flatMap_cons, List.getElem?_append_right (by rw [hc, Nat.add_mul]; omega)]
    have : (i + 1) * c + j - (f d).length = i * c + j := by rw [hc, Nat.add_mul]; omega
    rw [this, rec_get f c hc l i j (by simpa using hi) hj]; simp

/-- A row of records that fills a block. -/
def RecAt {X : Type} (w : World) (b : Nat) (T : TypeId) (f : X → List Value) (l : List X) : Prop := RowAt w b T (l.flatMap f).toArray
theorem RecAt.lt {X : Type} {w : World} {b : Nat} {T : TypeId} {f : X → List Value} {l : List X} (h : RecAt w b T f l) : b < w.heap.size := RowAt.lt h
theorem RecAt.below {X : Type} {w w' : World} {b B : Nat} {T : TypeId} {f : X → List Value} {l : List X} (h : RecAt w b T f l) (hg : Below B w w') (hb : b < B) : RecAt w' b T f l := RowAt.below h hg hb
theorem RecAt.cell {X : Type} [Inhabited X] {w : World} {b : Nat} {T : TypeId} {f : X → List Value} {c : Nat} {l : List X} (h : RecAt w b T f l) (hc : ∀ x, (f x).length = c) (i j : Nat) (hi : i < l.length) (hj : j < c) : w.cell? ⟨b, i * c + j, none⟩ = (f (l.getD i default))[j]? := by
  rw [cell_of_row w b _ _ _ _ h, List.getElem?_toArray, rec_get f c hc l i j hi hj]
theorem RecAt.range {X : Type} [Inhabited X] {w : World} {b : Nat} {T : TypeId} {f : X → List Value} {c : Nat} {l : List X} (h : RecAt w b T f l) (hc : ∀ x, (f x).length = c) (i : Nat) (hi : i < l.length) : w.rangeAt b (i * c) (f (l.getD i default)) := fun j u hu => by
  have hj : j < c := by have := (List.getElem?_eq_some_iff.1 hu).1; rw [hc] at this; exact this
  rw [h.cell hc i j hi hj]; exact hu
theorem rec_split {X : Type} [Inhabited X] (f : X → List Value) (l : List X) (i : Nat) (hi : i < l.length) : l.flatMap f = (l.take i).flatMap f ++ f (l.getD i default) ++ (l.drop (i + 1)).flatMap f := by
  have h1 : l.getD i default = l[i] := by simp [List.getD, List.getElem?_eq_getElem hi]
  rw [h1]
  conv => lhs; rw [← List.take_append_drop i l, List.drop_eq_getElem_cons hi]
  rw [List.flatMap_append, List.flatMap_cons, List.append_assoc]
theorem rec_set {X : Type} (f : X → List Value) (l : List X) (i : Nat) (x : X) (hi : i < l.length) : (l.set i x).flatMap f = (l.take i).flatMap f ++ f x ++ (l.drop (i + 1)).flatMap f := by
  rw [List.set_eq_take_append_cons_drop, if_pos hi, List.flatMap_append, List.flatMap_cons, List.append_assoc]

/-- What a store of some cells leaves. -/
theorem set_grown (w : World) (b : Nat) : ∀ (cs : List Value) (o : Nat), w.grownBy (w.setCells b o cs) (some b) ∧ (w.setCells b o cs).heap.size = w.heap.size := by
  intro cs
  induction cs generalizing w with
  | nil => intro o; exact ⟨⟨rfl, rfl, rfl, Nat.le_refl _, fun k _ _ => rfl⟩, rfl⟩
  | cons v cs ih =>
    intro o
    rw [World.setCells]
    obtain ⟨h1, h2⟩ := ih (w.setCell ⟨b, o, none⟩ v) (o + 1)
    have g := grown_set w b o v
    refine ⟨⟨h1.os.trans g.os, h1.tape.trans g.tape, h1.output.trans g.output, Nat.le_trans g.size h1.size, fun k hk hne => ?_⟩, by rw [h2]; simp⟩
    rw [h1.block k (by simpa using hk) hne, g.block k hk hne]

/-- A record of a row is written. -/
theorem store_rec {X : Type} [Inhabited X] {ops : Array Oper} {rest : List Oper} {op : Oper} {a : Act} {w : World} {Q : Exit → Act → World → Prop} (hgd : op.guard = none) (T : TypeId) (x y : Operand) (ho : op.op = .store T x y) (hd : op.dst = none)
    (f : X → List Value) (c : Nat) (hc : ∀ x, (f x).length = c) (hone : ∀ x, ∀ u ∈ f x, u.oneCell' = true) (hs : (Tryd.prog.info? T).map (·.size) = some c)
    (b i : Nat) (d : X) (hx : a.eval x = .pointer (some ⟨b, i * c, none⟩)) (hy : a.eval y = .agg (f d).toArray) (l : List X) (hD : RecAt w b T f l) (hi : i < l.length)
    (h : ∀ w', RecAt w' b T f (l.set i d) → w.grownBy w' (some b) → w'.heap.size = w.heap.size → wpList Tryd.prog ops Q rest a w') : wpList Tryd.prog ops Q (op :: rest) a w := by
  have hD' : RowAt w b T ((l.take i).flatMap f ++ f (l.getD i default) ++ (l.drop (i + 1)).flatMap f).toArray := by rw [← rec_split f l i hi]; exact hD
  have hlen : ((l.take i).flatMap f).length = i * c := by rw [rec_len f c hc, List.length_take, Nat.min_eq_left (by omega)]
  have hth := RowAt.there hD'
  rw [hlen, hc] at hth
  refine wpList_store_mid hgd T x y ho b (i * c) (f d).toArray hx hy (by rw [List.size_toArray, hc]; exact hth) (by rw [List.size_toArray, hc]; exact hs) (by rw [Array.all_eq_true_iff_forall_mem]; intro v hv; exact hone d v (by simpa using hv)) ?_
  have e : a.put op.dst undef = a := by rw [hd]; rfl
  rw [e]
  have hput := RowAt.put (f d) (i * c) w ((l.take i).flatMap f) (f (l.getD i default)) ((l.drop (i + 1)).flatMap f) (by rw [hc, hc]) hlen hD'
  rw [← rec_set f l i d hi] at hput
  have hg := set_grown w b (f d) (i * c)
  simpa using h _ hput hg.1 hg.2

/-- The one cell of a record of one is written. -/
theorem store_rec1 {X : Type} [Inhabited X] {ops : Array Oper} {rest : List Oper} {op : Oper} {a : Act} {w : World} {Q : Exit → Act → World → Prop} (hgd : op.guard = none) (T : TypeId) (x y : Operand) (ho : op.op = .store T x y) (hd : op.dst = none)
    (g : X → Value) (hone : ∀ x, (g x).oneCell' = true) (hs : (Tryd.prog.info? T).map (·.size) = some 1)
    (b i : Nat) (d : X) (hx : a.eval x = .pointer (some ⟨b, i, none⟩)) (hy : a.eval y = g d) (l : List X) (hD : RecAt w b T (fun x => [g x]) l) (hi : i < l.length)
    (h : ∀ w', RecAt w' b T (fun x => [g x]) (l.set i d) → w.grownBy w' (some b) → w'.heap.size = w.heap.size → wpList Tryd.prog ops Q rest a w') : wpList Tryd.prog ops Q (op :: rest) a w := by
  refine wpList_plain hgd fun K hK => ?_
  have hcell : w.cell? ⟨b, i, none⟩ = some (g (l.getD i default)) := by
    have := RecAt.cell (c := 1) hD (fun _ => rfl) i 0 hi (by decide)
    simpa using this
  unfold Oper.wp execOp
  simp only [ho, hx, hy, Instr.storeAt, Instr.sureAddr, Sem.run_bind, Sem.run_pure, Result.andThen_ok, run_storeVar_cell w b i T (g d) (by rw [hcell]; rfl) (frozen_of_row w b _ _ _ hD) hs (hone d)]
  have hput : RecAt (w.setCell ⟨b, i, none⟩ (g d)) b T (fun x => [g x]) (l.set i d) := by
    have h1 := heap_setCell_same w b i _ _ (g d) hD
    have e1 : ∀ l : List X, l.flatMap (fun x => [g x]) = l.map g := fun l => by
      induction l with
      | nil => rfl
      | cons a l ih => rw [List.flatMap_cons, ih, List.map_cons]; rfl
    have e2 : ((l.flatMap fun x => [g x]).toArray).setIfInBounds i (g d) = ((l.set i d).flatMap fun x => [g x]).toArray := by
      rw [e1, e1, List.map_set]
      simp
    rw [e2] at h1
    exact h1
  have := h _ hput (grown_set w b i (g d)) (by simp)
  have e : a.put op.dst undef = a := by rw [hd]; rfl
  show K (a.put op.dst undef) _
  rw [e]
  exact hK _ _ this

/-- A record that lies at whatever place is read. -/
theorem load_rec {ops : Array Oper} {rest : List Oper} {op : Oper} {a : Act} {w : World} {Q : Exit → Act → World → Prop} (hgd : op.guard = none) (T : TypeId) (x : Operand) (ho : op.op = .load T x)
    (A : Addr) (hx : a.eval x = .pointer (some A)) (cs : List Value) (d : TypeDesc) (hA : ∀ j v, cs[j]? = some v → w.cell? (A.add j) = some v) (hu : Tryd.prog.underlying T = some d) (hd : d.isRow = true) (hi : (Tryd.prog.info? T).map (·.size) = some cs.length)
    (h : wpList Tryd.prog ops Q rest (a.put op.dst (.agg cs.toArray)) w) : wpList Tryd.prog ops Q (op :: rest) a w := by
  refine wpList_plain hgd fun _ hK => ?_
  have hl : (loadCells A cs.length).run Tryd.prog w = .ok cs.toArray w := run_loadCells_list (P := Tryd.prog) w A cs hA
  have hv : (loadVar T A).run Tryd.prog w = .ok (.agg cs.toArray) w := by
    cases hq : Tryd.prog.info? T with
    | none => simp [hq] at hi
    | some i =>
      have hs : i.size = cs.length := by simpa [hq] using hi
      have hagg : (isAgg T).run Tryd.prog w = .ok true w := by
        unfold isAgg
        rw [Sem.run_bind, run_underlying hu w]
        cases d <;> simp_all
      simp [loadVar, Sem.run_bind, hagg, sizeOf, typeInfo, hq, hs, hl]
  unfold Oper.wp execOp
  simp only [ho, hx, Instr.loadAt, Instr.sureAddr, Sem.run_bind, Sem.run_pure, Result.andThen_ok, hv]
  exact hK _ _ h

/-- Three cells are written whole. -/
theorem store_3 {ops : Array Oper} {rest : List Oper} {o : Oper} {a : Act} {w : World} {Q : Exit → Act → World → Prop} (hgd : o.guard = none) (T : TypeId) (x y : Operand) (ho : o.op = .store T x y) (hd : o.dst = none) (hs3 : (Tryd.prog.info? T).map (·.size) = some 3)
    (b : Nat) (cs : Array Value) (h3 : cs.size = 3) (hone : cs.all (·.oneCell') = true) (hx : a.eval x = .pointer (some ⟨b, 0, none⟩)) (hy : a.eval y = .agg cs) (c0 : Array Value) (h0 : c0.size = 3) (hN : RowAt w b T c0)
    (h : ∀ w', RowAt w' b T cs → w.grownBy w' (some b) → w'.heap.size = w.heap.size → wpList Tryd.prog ops Q rest a w') : wpList Tryd.prog ops Q (o :: rest) a w := by
  refine wpList_store_row hgd T x y ho b cs hx hy T c0 hN (by rw [hs3, h3]) (by rw [h0, h3]) hone ?_
  rw [hd]
  exact h _ (setRow_heap w b _ _ _ _ hN) ⟨rfl, rfl, rfl, by simp, fun k _ hne => setRow_other w b k _ (by intro e; exact hne (by rw [e]))⟩ (by simp)
/-- Records that came in: their cells. -/
def ArgR {X : Type} [Inhabited X] (w : World) (a : Addr) (f : X → List Value) (c : Nat) (l : List X) : Prop := ∀ i j v, i < l.length → (f (l.getD i default))[j]? = some v → w.cell? ((a.add (i * c)).add j) = some v
/-- A slice of records that came in. -/
def SlR {X : Type} [Inhabited X] (w : World) (v : Value) (f : X → List Value) (c : Nat) (l : List X) : Prop :=
  (v = .slice none 0 0 ∧ l = []) ∨ ∃ (a : Addr) (cap : Nat), v = .slice (some a) l.length cap ∧ ArgR w a f c l ∧ (0 < l.length → a.block < w.heap.size)
theorem SlR.below {X : Type} [Inhabited X] {w w' : World} {v : Value} {f : X → List Value} {c : Nat} {l : List X} (h : SlR w v f c l) (hB : Below w.heap.size w w') : SlR w' v f c l := by
  rcases h with h | ⟨a, cap, rfl, h, hb⟩
  · exact .inl h
  · refine .inr ⟨a, cap, rfl, fun i j u hi hv => ?_, fun hl => Nat.lt_of_lt_of_le (hb hl) hB.size⟩
    rw [hB.cell (by
      have := hb (by omega)
      unfold Addr.add; split <;> split <;> exact this)]
    exact h i j u hi hv
theorem SlR.arg {X : Type} [Inhabited X] {w w' : World} {f : X → List Value} {c : Nat} {l : List X} {A : Addr} {n cap : Nat} (h : SlR w (.slice (some A) n cap) f c l) (hB : Below w.heap.size w w') : ArgR w' A f c l := by
  rcases h.below hB with ⟨h1, _⟩ | ⟨A', cap', h1, h2, _⟩
  · cases h1
  · cases h1; exact h2
theorem SlR.len {X : Type} [Inhabited X] {w : World} {v : Value} {f : X → List Value} {c : Nat} {l : List X} (h : SlR w v f c l) : ∃ o cap, v = .slice o l.length cap := by
  rcases h with ⟨rfl, rfl⟩ | ⟨a, cap, rfl, _⟩
  · exact ⟨none, 0, rfl⟩
  · exact ⟨_, _, rfl⟩

/-- New records. -/
theorem made_rec {X : Type} [Inhabited X] (f : X → List Value) (c : Nat) (hc : ∀ x, (f x).length = c) (z : Array Value) (x0 : X) (hz : z.toList = f x0) (n : Nat) : madeCells z (n * c) = ((List.replicate n x0).flatMap f).toArray := by
  have hzs : z.size = c := by rw [← Array.length_toList, hz, hc]
  apply Array.ext_getElem?
  intro i
  by_cases hi : i < n * c
  · have hc0 : 0 < c := by
      rcases Nat.eq_zero_or_pos c with h | h
      · rw [h] at hi; omega
      · exact h
    have hr : (Array.range (n * c))[i]? = some i := by rw [Array.getElem?_eq_getElem (by rw [Array.size_range]; omega), Array.getElem_range]
    have hd : i / c < n := Nat.div_lt_of_lt_mul (by rw [Nat.mul_comm]; exact hi)
    have h1 := rec_get f c hc (List.replicate n x0) (i / c) (i % c) (by simpa using hd) (Nat.mod_lt _ hc0)
    rw [Nat.mul_comm (i / c), Nat.div_add_mod] at h1
    rw [List.getElem?_toArray (xs := (List.replicate n x0).flatMap f), h1]
    simp only [madeCells, Array.getElem?_map, hr, Option.map_some, hzs]
    have h2 : (List.replicate n x0).getD (i / c) default = x0 := by simp [List.getD, hd]
    rw [h2, ← hz]
    have hm : i % c < z.size := by rw [hzs]; exact Nat.mod_lt _ hc0
    rw [Array.getElem?_toList, Array.getElem?_eq_getElem hm, getElem!_pos z (i % c) hm]
  · rw [Array.getElem?_eq_none (by rw [size_madeCells]; omega), Array.getElem?_eq_none]
    rw [List.size_toArray, rec_len f c hc, List.length_replicate]; omega
theorem rec_take_set {X : Type} [Inhabited X] (x0 : X) (l : List X) (k : Nat) (hk : k < l.length) : (l.take k ++ List.replicate (l.length - k) x0).set k (l.getD k default) = l.take (k + 1) ++ List.replicate (l.length - (k + 1)) x0 := by
  have h1 : (l.take k).length = k := by rw [List.length_take]; omega
  have h2 : l.getD k default = l[k] := by simp [List.getD, List.getElem?_eq_getElem hk]
  obtain ⟨m, hm⟩ : ∃ m, l.length - k = m + 1 := ⟨l.length - k - 1, by omega⟩
  rw [hm, List.replicate_succ, List.set_append_right _ _ (by omega), h1, Nat.sub_self, List.set_cons_zero, List.take_succ_eq_append_getElem hk, show l.length - (k + 1) = m by omega, List.append_assoc, h2]
  rfl
/-- The slice of a whole block of records. -/
abbrev slR {X : Type} (b : Nat) (l : List X) : Value := .slice (some ⟨b, 0, none⟩) l.length l.length
end Go.Proofs.YtmfpnbmfcoahbaaDoor
