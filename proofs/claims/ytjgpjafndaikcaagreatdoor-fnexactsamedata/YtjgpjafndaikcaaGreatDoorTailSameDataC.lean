/-
  The texts Seats, DatLaw, DatCopy, SpecGoodData, ImplGoodData, Same, DatArg, one behind the other, as one.
-/
import Derived.Test.YtjgpjafndaikcaaGreatDoorTailSameDataB
import Derived.Test.YtjgpjafndaikcaaGreatDoorTailSameDataA
import Derived.Test.YtjgpjafndaikcaaGreatDoorHeldCall
import Derived.Deep.OwnRows
import Derived.Test.YtjgpjafndaikcaaGreatDoorSpecDiv
import Derived.Deep.Strs
import Derived.Carry
import Derived.WalkKit
import Derived.ProofKit
import Derived.OpenShut
import Derived.ShutString
import Derived.ChangeOld

/-
  The seats that impl.GoodData keeps beside the nodes.
-/
namespace Go.Proofs.YtjgpjafndaikcaaGreatDoor
open Go.RowKit
set_option linter.unusedVariables false

section
variable {P : Program}
theorem run_storeVar_cell (w : World) (b o : Nat) (ty : TypeId) (v : Value) (hc : (w.cell? ⟨b, o, none⟩).isSome = true) (hf : w.frozen? ⟨b, o, none⟩ = false) (hi : (P.info? ty).map (·.size) = some 1) (h1 : v.oneCell' = true) :
    (storeVar ty ⟨b, o, none⟩ v).run P w = .ok () (w.setCell ⟨b, o, none⟩ v) := by
  have := run_storeCells_cells (P := P) b o [v] 0 w (fun j hj => by simp at hj; subst hj; simpa using hc) (fun j hj => by simp at hj; subst hj; simpa using hf) (fun x hx => by simp at hx; subst hx; exact h1)
  have hcl : v.cells = #[v] := by cases v <;> first | rfl | cases h1
  cases hq : P.info? ty with
  | none => simp [hq] at hi
  | some i =>
    have hs : i.size = 1 := by simpa [hq] using hi
    simp only [Nat.add_zero] at this
    simp [storeVar, sizeOf, typeInfo, hq, hcl, hs, this, World.setCells]
end
theorem grown_set (w : World) (b o : Nat) (v : Value) : w.grownBy (w.setCell ⟨b, o, none⟩ v) (some b) :=
  ⟨rfl, rfl, rfl, by simp, fun k _ hne => Deep.blk_setCell_other _ _ _ _ (by intro e; exact hne (by rw [e]))⟩
/-- One cell of a row is written. -/
theorem store_cell {ops : Array Oper} {rest : List Oper} {op : Oper} {a : Act} {w : World} {Q : Exit → Act → World → Prop} (hgd : op.guard = none) (ty : TypeId) (x y : Operand) (ho : op.op = .store ty x y) (hd : op.dst = none)
    (b o : Nat) (v : Value) (hx : a.eval x = .pointer (some ⟨b, o, none⟩)) (hy : a.eval y = v) (hi : (Tryz.prog.info? ty).map (·.size) = some 1) (h1 : v.oneCell' = true) (t : TypeId) (n : Nat) (f : Nat → Value) (hR : w.rowIs b t n f) (hon : o < n)
    (h : ∀ w', w'.rowIs b t n (fun j => if j = o then v else f j) → w.grownBy w' (some b) → w'.heap.size = w.heap.size → wpList Tryz.prog ops Q rest a w') : wpList Tryz.prog ops Q (op :: rest) a w :=
  wpList_plain hgd fun _ hK => by
    unfold Oper.wp execOp
    simp only [ho, hx, hy, Instr.storeAt, Instr.sureAddr, Sem.run_bind, Sem.run_pure, Result.andThen_ok, run_storeVar_cell w b o ty v (by rw [hR.cell hon]; rfl) (hR.frozen o) hi h1]
    have := h _ (hR.set o v) (grown_set w b o v) (by simp)
    have e : a.put op.dst undef = a := by rw [hd]; rfl
    refine hK _ _ ?_
    rw [e]
    exact this
/-- The same, as the one operation of a drawn region that may come up. -/
theorem held_store_cell {ops : Array Oper} {Q : Exit → Act → World → Prop} {md : Region.Mode} {S : World → Prop} {op : Oper} {fuel : Nat} {listed : Array Bool} {a : Act} {w : World} (i : Nat) (hr : Region.ready md ops listed = [i]) (hi : ops[i]? = some op) (hw : Region.wanted op (yielded ops a.tmps) = true) (ty : TypeId) (x y : Operand) (ho : op.op = .store ty x y) (hd : op.dst = none)
    (b o : Nat) (v : Value) (hx : a.eval x = .pointer (some ⟨b, o, none⟩)) (hy : a.eval y = v) (hin : (Tryz.prog.info? ty).map (·.size) = some 1) (h1 : v.oneCell' = true) (t : TypeId) (n : Nat) (f : Nat → Value) (hR : w.rowIs b t n f) (hon : o < n)
    (h : ∀ w', w'.rowIs b t n (fun j => if j = o then v else f j) → w.grownBy w' (some b) → w'.heap.size = w.heap.size → S w' ∧ wpAnyH Tryz.prog md ops Q S fuel (listed.setIfInBounds i true) a w') : wpAnyH Tryz.prog md ops Q S (fuel + 1) listed a w := by
  refine wpAnyH_ready hr (by simp) (AllReadyH.cons hi (fun K hK => ?_) AllReadyH.nil)
  rw [if_pos hw]
  unfold Oper.wp execOp
  simp only [ho, hx, hy, Instr.storeAt, Instr.sureAddr, Sem.run_bind, Sem.run_pure, Result.andThen_ok, run_storeVar_cell w b o ty v (by rw [hR.cell hon]; rfl) (hR.frozen o) hin h1]
  have := h _ (hR.set o v) (grown_set w b o v) (by simp)
  have e : a.put op.dst undef = a := by rw [hd]; rfl
  refine hK.out _ _ this.1 (fun _ => ?_)
  rw [e]
  exact this.2

/-- What the seats hold when k nodes are looked at. -/
def seatF (l : List Dm) (k i : Nat) : Value :=
  if i % 3 = 0 then .int .i64 ((if i / 3 < k then arnd l (i / 3) else 0 : Nat) : Int) else if i % 3 = 1 then .int .i64 ((prt l k (i / 3)).length : Int) else .bool (lastL l (prt l k (i / 3)))
def SeatAt (w : World) (sb : Nat) (l : List Dm) (k : Nat) : Prop := w.rowIs sb 66 (3 * l.length) (seatF l k)
theorem seatF0 (l : List Dm) (k j : Nat) : seatF l k (j * 3) = .int .i64 ((if j < k then arnd l j else 0 : Nat) : Int) := by
  unfold seatF; rw [if_pos (by omega), show j * 3 / 3 = j by omega]
theorem seatF1 (l : List Dm) (k j : Nat) : seatF l k (j * 3 + 1) = .int .i64 ((prt l k j).length : Int) := by
  unfold seatF; rw [if_neg (by omega), if_pos (by omega), show (j * 3 + 1) / 3 = j by omega]
theorem seatF2 (l : List Dm) (k j : Nat) : seatF l k (j * 3 + 2) = .bool (lastL l (prt l k j)) := by
  unfold seatF; rw [if_neg (by omega), if_neg (by omega), show (j * 3 + 2) / 3 = j by omega]
theorem seat_row {w : World} {sb : Nat} {l : List Dm} {k : Nat} {f : Nat → Value} (h : w.rowIs sb 66 (3 * l.length) f) (h0 : ∀ j, j < l.length → f (j * 3) = seatF l k (j * 3)) (h1 : ∀ j, j < l.length → f (j * 3 + 1) = seatF l k (j * 3 + 1)) (h2 : ∀ j, j < l.length → f (j * 3 + 2) = seatF l k (j * 3 + 2)) : SeatAt w sb l k :=
  h.congr (fun i hi => by
    rcases (by omega : i % 3 = 0 ∨ i % 3 = 1 ∨ i % 3 = 2) with e | e | e
    · have := h0 (i / 3) (by omega); rwa [show i / 3 * 3 = i by omega] at this
    · have := h1 (i / 3) (by omega); rwa [show i / 3 * 3 + 1 = i by omega] at this
    · have := h2 (i / 3) (by omega); rwa [show i / 3 * 3 + 2 = i by omega] at this)
theorem SeatAt.below {w w' : World} {sb B : Nat} {l : List Dm} {k : Nat} (h : SeatAt w sb l k) (hg : Below B w w') (hb : sb < B) : SeatAt w' sb l k := World.rowIs.of_block h (hg.block sb hb)
theorem SeatAt.grown {w w' : World} {sb : Nat} {l : List Dm} {k : Nat} {r : Option Nat} (h : SeatAt w sb l k) (hg : w.grownBy w' r) (hr : some sb ≠ r) : SeatAt w' sb l k := World.rowIs.of_block h (hg.block sb (World.rowIs.lt h) hr)

/-- A node that is in no list. -/
theorem seat_none {w : World} {sb : Nat} {l : List Dm} {k : Nat} (h : SeatAt w sb l k) (hu : du l k < 0) : SeatAt w sb l (k + 1) := by
  have hp : ∀ j, prt l (k + 1) j = prt l k j := fun j => by rw [prt_snoc, if_neg (by omega), List.append_nil]
  refine seat_row h (fun j _ => ?_) (fun j _ => ?_) (fun j _ => ?_)
  · rw [seatF0, seatF0]
    by_cases e : j = k
    · subst e; rw [if_neg (by omega), if_pos (by omega), arnd_none hu]
    · by_cases e2 : j < k
      · rw [if_pos e2, if_pos (by omega)]
      · rw [if_neg e2, if_neg (by omega)]
  · rw [seatF1, seatF1, hp]
  · rw [seatF2, seatF2, hp]
/-- A node that is in the list j. -/
theorem seat_some {w : World} {sb : Nat} {l : List Dm} {k j : Nat} (hU : Up l k) (hj : du l k = (j : Int)) (hjk : j < k) (hl : isL (dk l j) = true)
    (h : w.rowIs sb 66 (3 * l.length) (fun i => if i = j * 3 + 2 then .bool (isL (dk l k)) else (fun i => if i = j * 3 + 1 then .int .i64 (((prt l k j).length : Int) + 1) else (fun i => if i = k * 3 then .int .i64 ((arnd l j : Int) + 1) else seatF l k i) i) i)) : SeatAt w sb l (k + 1) := by
  refine seat_row h (fun m _ => ?_) (fun m _ => ?_) (fun m _ => ?_)
  · show (if m * 3 = j * 3 + 2 then _ else if m * 3 = j * 3 + 1 then _ else if m * 3 = k * 3 then _ else _) = _
    rw [if_neg (by omega), if_neg (by omega), seatF0, seatF0]
    by_cases e : m = k
    · subst e; rw [if_pos rfl, if_pos (by omega), arnd_some hU hj hjk hl]; rfl
    · rw [if_neg (by omega)]
      by_cases e2 : m < k
      · rw [if_pos e2, if_pos (by omega)]
      · rw [if_neg e2, if_neg (by omega)]
  · show (if m * 3 + 1 = j * 3 + 2 then _ else if m * 3 + 1 = j * 3 + 1 then _ else if m * 3 + 1 = k * 3 then _ else _) = _
    rw [if_neg (by omega), seatF1, seatF1, prt_snoc]
    by_cases e : m = j
    · subst e; rw [if_pos rfl, if_pos ⟨hjk, hj⟩]; simp
    · rw [if_neg (by omega), if_neg (by omega), if_neg (by omega), List.append_nil]
  · show (if m * 3 + 2 = j * 3 + 2 then _ else if m * 3 + 2 = j * 3 + 1 then _ else if m * 3 + 2 = k * 3 then _ else _) = _
    rw [seatF2, seatF2, prt_snoc]
    by_cases e : m = j
    · subst e; rw [if_pos rfl, if_pos ⟨hjk, hj⟩, lastL_snoc]
    · rw [if_neg (by omega), if_neg (by omega), if_neg (by omega), if_neg (by omega), List.append_nil]

/-- The seats as make lays them. -/
theorem info_seat : (Tryz.prog.info? 66).map (fun i => (i.zero, i.size, i.bytes)) = some (some (.agg #[.int .i64 0, .int .i64 0, .bool false]), 3, 24) := by kernel_rfl
theorem run_make_seats (n : Nat) (hn : n ≤ 300) (w : World) : (Instr.makeSlice 64 (.int .i64 (n : Int)) (.int .i64 (n : Int))).run Tryz.prog w = .ok (.slice (some ⟨w.heap.size, 0, none⟩) n n) (w.alloc (.cells (madeCells #[.int .i64 0, .int .i64 0, .bool false] (n * 3)) 66)) := by
  obtain ⟨i, hi, hzz⟩ := Option.map_eq_some_iff.1 info_seat
  simp only [Prod.mk.injEq] at hzz
  obtain ⟨hz, hs, hb⟩ := hzz
  have hr := run_make (P := Tryz.prog) w 64 66 i _ Tryz.underlying64 hi hz .i64 .i64 n n (by omega) (Int.le_refl _) (by rw [hb]; omega) (by omega)
  simp only [Int.toNat_natCast, hs] at hr
  exact hr
theorem seats_new (w : World) (l : List Dm) : SeatAt (w.alloc (.cells (madeCells #[.int .i64 0, .int .i64 0, .bool false] (l.length * 3)) 66)) w.heap.size l 0 := by
  refine ⟨_, Deep.blk_alloc_new _ _, by rw [size_madeCells]; omega, fun i hi => ?_⟩
  have hp : prt l 0 (i / 3) = [] := rfl
  simp only [madeCells, Array.getElem?_map]
  have hr : (Array.range (l.length * 3))[i]? = some i := by rw [Array.getElem?_eq_getElem (by rw [Array.size_range]; omega), Array.getElem_range]
  rw [hr, Option.map_some]
  unfold seatF
  rcases (by omega : i % 3 = 0 ∨ i % 3 = 1 ∨ i % 3 = 2) with e | e | e
  · rw [if_pos e]; simp [e]
  · rw [if_neg (by omega), if_pos e, hp]; simp [e]
  · rw [if_neg (by omega), if_neg (by omega), hp]; simp [e, lastL]
end Go.Proofs.YtjgpjafndaikcaaGreatDoor

/-
  What the laws' own helpers over data answer.
-/
namespace Go.Proofs.YtjgpjafndaikcaaGreatDoor
open Go.RowKit
set_option linter.unusedVariables false

theorem zero_ldm : (Tryz.prog.info? 37).map (·.size) = some 3 := by kernel_rfl
theorem ldm_c1 {w : World} {b : Nat} {d : Dm} (h : RowAt w b 37 (dmC d)) : w.cell? ⟨b, 1, none⟩ = some (.string d.t) := by rw [cell_of_row w b _ _ _ _ h]; rfl

set_option maxHeartbeats 1000000 in
set_option maxRecDepth 100000 in
theorem szDatum_any (d : Dm) (n : Int) (w : World) (hs : d.t.size ≤ maxLen) (hn0 : 0 ≤ n) (hn1 : n ≤ 1048576) :
    Calls Tryz.prog 18 #[.agg (dmC d), .int .i64 n] w fun e w' => (∃ r : Int, e = .returned (.int .i64 r) ∧ (r = -1 ∨ (0 ≤ r ∧ r ≤ n))) ∧ Below w.heap.size w w' := by
  have hR := RowAt.new w 37 (dmC d)
  have c1 := ldm_c1 hR
  have hB : Below w.heap.size w (w.alloc (.cells (dmC d) 37)) := (Below.refl _ _).alloc (Nat.le_refl _) _
  obtain ⟨k, t, u⟩ := d
  simp only at c1 hs
  unfold maxLen at hs
  clear hR
  by_cases h : n - (t.size : Int) < 0
  · go_enter Tryz.func18, Tryz.ntmps18
    go_wp2
    go_ret
    exact ⟨⟨-1, rfl, .inl rfl⟩, hB⟩
  · go_enter Tryz.func18, Tryz.ntmps18
    go_wp2
    go_ret
    exact ⟨⟨n - (t.size : Int), rfl, .inr ⟨by omega, by omega⟩⟩, hB⟩

set_option maxHeartbeats 1000000 in
set_option maxRecDepth 100000 in
theorem toDatum_any (d : Dm) (w : World) :
    Calls Tryz.prog 26 #[.agg (dmC d)] w fun e w' => e = .returned (.agg (dmC d)) ∧ Below w.heap.size w w' := by
  have hz : ∀ w, (zeroValue 38).run Tryz.prog w = .ok (.agg #[.int .i64 0, .string ⟨#[]⟩, .int .i64 0]) w := zero_dm.1
  obtain ⟨k, t, u⟩ := d
  show Calls Tryz.prog 26 #[.agg #[.int .i64 k, .string t, .int .i64 u]] w fun e w' => e = .returned (.agg #[.int .i64 k, .string t, .int .i64 u]) ∧ Below w.heap.size w w'
  go_enter Tryz.func26, Tryz.ntmps26
  go_wp2
  refine bodyPost_ret (v := .agg #[.int .i64 k, .string t, .int .i64 u]) (results_cell_row Tryz.results26 _ _ (w.heap.size + 1) 38 #[.int .i64 k, .string t, .int .i64 u] (0, 0) _ rfl (RowAt.old (by have := RowAt.new (w.alloc (.cells #[.int .i64 k, .string t, .int .i64 u] 37)) 38 #[.int .i64 k, .string t, .int .i64 u]; rwa [World.size_alloc] at this) _) Tryz.underlying38 rfl zero_dm.2) rfl ⟨rfl, ?_⟩
  exact (((Below.refl _ _).alloc (Nat.le_refl _) _).alloc (by simp) _).alloc (by simp; omega) _

/-- Data that came in: their cells. -/
def ArgAt (w : World) (a : Addr) (l : List Dm) : Prop := ∀ i j v, i < l.length → (dmL (l.getD i default))[j]? = some v → w.cell? ((a.add (i * 3)).add j) = some v
section
variable {P : Program}
theorem run_loadVar_addr (w : World) (a : Addr) (ty : TypeId) (cs : List Value) (d : TypeDesc) (hc : ∀ j v, cs[j]? = some v → w.cell? (a.add j) = some v)
    (hu : P.underlying ty = some d) (hd : d.isRow = true) (hi : (P.info? ty).map (·.size) = some cs.length) :
    (loadVar ty a).run P w = .ok (.agg cs.toArray) w := by
  have hl : (loadCells a cs.length).run P w = .ok cs.toArray w := run_loadCells_list (P := P) w a cs hc
  cases hq : P.info? ty with
  | none => simp [hq] at hi
  | some i =>
    have hs : i.size = cs.length := by simpa [hq] using hi
    have hagg : (isAgg ty).run P w = .ok true w := by
      unfold isAgg
      rw [Sem.run_bind, run_underlying hu w]
      cases d <;> simp_all
    simp [loadVar, Sem.run_bind, hagg, sizeOf, typeInfo, hq, hs, hl]
end
/-- A node that came in is read. -/
theorem load_arg {ops : Array Oper} {rest : List Oper} {op : Oper} {a : Act} {w : World} {Q : Exit → Act → World → Prop} (hgd : op.guard = none) (x : Operand) (ho : op.op = .load 37 x)
    (A : Addr) (i : Nat) (hx : a.eval x = .pointer (some (A.add (i * 3)))) (l : List Dm) (hD : ArgAt w A l) (hi : i < l.length) (d : Dm) (hd : l.getD i default = d)
    (h : wpList Tryz.prog ops Q rest (a.put op.dst (.agg (dmC d))) w) : wpList Tryz.prog ops Q (op :: rest) a w := by
  subst hd
  refine wpList_plain hgd fun _ hK => ?_
  unfold Oper.wp execOp
  simp only [ho, hx, Instr.loadAt, Instr.sureAddr, Sem.run_bind, Sem.run_pure, Result.andThen_ok, run_loadVar_addr w (A.add (i * 3)) 37 (dmL (l.getD i default)) _ (fun j v hv => hD i j v hi hv) Tryz.underlying37 rfl zero_ldm]
  exact hK _ _ h

/-- A slice of data that came in. -/
def SlIn (w : World) (v : Value) (l : List Dm) : Prop := (v = .slice none 0 0 ∧ l = []) ∨ ∃ (a : Addr) (cap : Nat), v = .slice (some a) l.length cap ∧ ArgAt w a l ∧ (0 < l.length → a.block < w.heap.size)
theorem SlIn.below {w w' : World} {v : Value} {l : List Dm} (h : SlIn w v l) (hB : Below w.heap.size w w') : SlIn w' v l := by
  rcases h with h | ⟨a, cap, rfl, h, hb⟩
  · exact .inl h
  · refine .inr ⟨a, cap, rfl, fun i j u hi hv => ?_, fun hl => Nat.lt_of_lt_of_le (hb hl) hB.size⟩
    rw [hB.cell (by
      have := hb (by omega)
      unfold Addr.add; split <;> split <;> exact this)]
    exact h i j u hi hv

set_option maxHeartbeats 1000000 in
set_option maxRecDepth 100000 in
theorem szDatumS_any (l : List Dm) (v : Value) (n : Int) (w : World) (hv : SlIn w v l) (hs : ∀ i, i < l.length → (dt l i).size ≤ maxLen) (hn0 : 0 ≤ n) (hn1 : n ≤ 1048576) (hl : l.length ≤ maxLen) :
    Calls Tryz.prog 7 #[v, .int .i64 n] w fun e w' => (∃ r : Int, e = .returned (.int .i64 r) ∧ (r = -1 ∨ (0 ≤ r ∧ r ≤ n ∧ (l.length : Int) ≤ n))) ∧ Below w.heap.size w w' := by
  unfold maxLen at hl
  have HS := hideT' hs
  have HV := hideT' hv
  clear hs
  rcases hv with ⟨rfl, rfl⟩ | ⟨A, cap, rfl, hA, hb⟩
  · have h1 : ¬ n < 0 := by omega
    go_enter Tryz.func7, Tryz.ntmps7
    go_wp2_with fail
    go_loopg [1, 5] 0 (fun g x i wr => x = .int .i64 n ∧ i = .int .i64 0 ∧ wr = w)
    case atStart => exact ⟨by go_num, rfl, rfl⟩
    case round =>
      obtain ⟨rfl, rfl, rfl⟩ := hrel
      go_wp2
      go_ret
      exact ⟨⟨n, rfl, .inr ⟨hn0, by omega, by simpa using hn0⟩⟩, Below.refl _ _⟩
  · by_cases h : n - (l.length : Int) < 0
    · go_enter Tryz.func7, Tryz.ntmps7
      go_wp2
      go_ret
      exact ⟨⟨-1, rfl, .inl rfl⟩, Below.refl _ _⟩
    · go_enter Tryz.func7, Tryz.ntmps7
      go_wp2_with fail
      go_loopg [1, 5] l.length (fun g x i wr => ∃ (m : Int) (k : Nat), g = l.length - k ∧ k ≤ l.length ∧ x = .int .i64 m ∧ 0 ≤ m ∧ m ≤ n ∧ i = .int .i64 (k : Int) ∧ Below w.heap.size w wr)
      case atStart => exact ⟨n - (l.length : Int), 0, rfl, by omega, by go_num, by omega, by omega, rfl, Below.refl _ _⟩
      case round =>
        obtain ⟨m, k, hg, hk, rfl, hm0, hm1, rfl, hW⟩ := hrel
        by_cases hlt : (k : Int) < (l.length : Int)
        · have hk' : k < l.length := by omega
          have hAr : ArgAt wr A l := by
            rcases HV.out.below hW with ⟨h1, _⟩ | ⟨A', cap', h1, h2, _⟩
            · cases h1
            · cases h1; exact h2
          obtain ⟨q, t, y, hd, hq, ht, hy⟩ := dm_parts l k
          have HDM := hideT' hd
          have hts : t.size ≤ maxLen := by rw [ht]; exact HS.out k hk'
          clear hd hq ht hy
          go_wp2_with (refine load_arg rfl _ rfl A k rfl l hAr hk' ⟨q, t, y⟩ HDM.out ?_)
          refine (szDatum_any ⟨q, t, y⟩ m _ hts hm0 (by omega)).mono ?_
          rintro e w2 ⟨⟨r, rfl, hr⟩, hW2⟩
          have hW3 := hW.trans (hW2.mono hW.size)
          rcases hr with rfl | ⟨hr0, hr1⟩
          · go_wp2
            go_ret
            exact ⟨⟨-1, rfl, .inl rfl⟩, hW3⟩
          · have hr2 : ¬ r < 0 := by omega
            go_wp2
            go_roundg (l.length - (k + 1))
            case measure => omega
            case rel => exact ⟨r, k + 1, rfl, by omega, rfl, hr0, by omega, by go_num, hW3⟩
        · go_wp2
          go_ret
          exact ⟨⟨m, rfl, .inr ⟨hm0, hm1, by omega⟩⟩, hW⟩
end Go.Proofs.YtjgpjafndaikcaaGreatDoor

/-
  The laws' copies of data, and whether two are the same.
-/
namespace Go.Proofs.YtjgpjafndaikcaaGreatDoor
open Go.RowKit
set_option linter.unusedVariables false

theorem datC_set (l : List Dm) (i : Nat) (d : Dm) (hi : i < l.length) : datC (l.set i d) = ((l.take i).flatMap dmL ++ dmL d ++ (l.drop (i + 1)).flatMap dmL).toArray := by
  unfold datC
  rw [List.set_eq_take_append_cons_drop, if_pos hi, List.flatMap_append, List.flatMap_cons, List.append_assoc]
theorem datC_split (l : List Dm) (i : Nat) (hi : i < l.length) : datC l = ((l.take i).flatMap dmL ++ dmL l[i] ++ (l.drop (i + 1)).flatMap dmL).toArray := by
  have := datC_set l i l[i] hi
  rwa [List.set_getElem_self] at this
/-- A node of a row is written. -/
theorem store_dm {ops : Array Oper} {rest : List Oper} {op : Oper} {a : Act} {w : World} {Q : Exit → Act → World → Prop} (hgd : op.guard = none) (x y : Operand) (ho : op.op = .store 38 x y) (hd : op.dst = none)
    (b i : Nat) (d : Dm) (hx : a.eval x = .pointer (some ⟨b, i * 3, none⟩)) (hy : a.eval y = .agg (dmC d)) (l : List Dm) (hD : DatAt w b l) (hi : i < l.length)
    (h : ∀ w', DatAt w' b (l.set i d) → w.grownBy w' (some b) → w'.heap.size = w.heap.size → wpList Tryz.prog ops Q rest a w') : wpList Tryz.prog ops Q (op :: rest) a w := by
  have hD' : RowAt w b 38 ((l.take i).flatMap dmL ++ dmL l[i] ++ (l.drop (i + 1)).flatMap dmL).toArray := by rw [← datC_split l i hi]; exact hD
  have hlen : ((l.take i).flatMap dmL).length = i * 3 := by rw [dat_len, List.length_take]; omega
  have hth := RowAt.there hD'
  rw [hlen] at hth
  refine wpList_store_mid hgd 38 x y ho b (i * 3) (dmC d) hx hy hth zero_dm.2 (dmC_one d) ?_
  have e : a.put op.dst undef = a := by rw [hd]; rfl
  rw [e]
  have hput := RowAt.put (dmL d) (i * 3) w ((l.take i).flatMap dmL) (dmL l[i]) ((l.drop (i + 1)).flatMap dmL) rfl hlen hD'
  rw [← datC_set l i d hi] at hput
  refine h _ hput ⟨?_, ?_, ?_, ?_, ?_⟩ ?_
  · rfl
  · rfl
  · rfl
  · simp [World.setCells, dmC, dmL]
  · intro k _ hne
    simp only [World.setCells, dmC, dmL]
    have hk : k ≠ b := fun e => hne (by rw [e])
    rw [Below.heap_setCell _ _ _ _ hk, Below.heap_setCell _ _ _ _ hk, Below.heap_setCell _ _ _ _ hk]
  · simp [World.setCells, dmC, dmL]

theorem info_dm : (Tryz.prog.info? 38).map (fun i => (i.zero, i.size, i.bytes)) = some (some (.agg #[.int .i64 0, .string ⟨#[]⟩, .int .i64 0]), 3, 32) := by kernel_rfl
theorem run_make_data (n : Nat) (hn : n ≤ 1048576) (w : World) : (Instr.makeSlice 25 (.int .i64 (n : Int)) (.int .i64 (n : Int))).run Tryz.prog w = .ok (.slice (some ⟨w.heap.size, 0, none⟩) n n) (w.alloc (.cells (madeCells #[.int .i64 0, .string ⟨#[]⟩, .int .i64 0] (n * 3)) 38)) := by
  obtain ⟨i, hi, hzz⟩ := Option.map_eq_some_iff.1 info_dm
  simp only [Prod.mk.injEq] at hzz
  obtain ⟨hz, hs, hb⟩ := hzz
  have hr := run_make (P := Tryz.prog) w 25 38 i _ Tryz.underlying25 hi hz .i64 .i64 n n (by omega) (Int.le_refl _) (by rw [hb]; omega) (by omega)
  simp only [Int.toNat_natCast, hs] at hr
  exact hr
theorem made_dat (n : Nat) : madeCells #[.int .i64 0, .string ⟨#[]⟩, .int .i64 0] (n * 3) = datC (List.replicate n default) := by
  apply Array.ext_getElem?
  intro i
  by_cases hi : i < n * 3
  · have hr : (Array.range (n * 3))[i]? = some i := by rw [Array.getElem?_eq_getElem (by rw [Array.size_range]; omega), Array.getElem_range]
    have h1 := flat_get (List.replicate n default) (i / 3) (i % 3) (by simp; omega) (by omega)
    rw [show 3 * (i / 3) + i % 3 = i by omega] at h1
    have h2 : (datC (List.replicate n default))[i]? = (dmL default)[i % 3]? := by unfold datC; rw [List.getElem?_toArray, h1, List.getElem_replicate]
    rw [h2]
    simp only [madeCells, Array.getElem?_map, hr, Option.map_some]
    rcases (by omega : i % 3 = 0 ∨ i % 3 = 1 ∨ i % 3 = 2) with e | e | e
    all_goals rw [show i % (#[Value.int .i64 0, .string ⟨#[]⟩, .int .i64 0] : Array Value).size = i % 3 from rfl, e]; rfl
  · rw [Array.getElem?_eq_none (by rw [size_madeCells]; omega), Array.getElem?_eq_none]
    unfold datC
    rw [List.size_toArray, dat_len, List.length_replicate]; omega

theorem take_set (l : List Dm) (k : Nat) (hk : k < l.length) : (l.take k ++ List.replicate (l.length - k) default).set k l[k] = l.take (k + 1) ++ List.replicate (l.length - (k + 1)) default := by
  have h1 : (l.take k).length = k := by rw [List.length_take]; omega
  obtain ⟨m, hm⟩ : ∃ m, l.length - k = m + 1 := ⟨l.length - k - 1, by omega⟩
  rw [hm, List.replicate_succ, List.set_append_right _ _ (by omega), h1, Nat.sub_self, List.set_cons_zero, List.take_succ_eq_append_getElem hk, show l.length - (k + 1) = m by omega, List.append_assoc]
  rfl

set_option maxHeartbeats 1000000 in
set_option maxRecDepth 100000 in
theorem toDatumS_any (l : List Dm) (v : Value) (w : World) (hv : SlIn w v l) (hl : l.length ≤ 1048576) :
    Calls Tryz.prog 9 #[v] w fun e w' => (∃ b : Nat, e = .returned (slV b l) ∧ w.heap.size ≤ b ∧ DatAt w' b l) ∧ Below w.heap.size w w' := by
  have HV := hideT' hv
  have hnew : DatAt (w.alloc (.cells (madeCells #[.int .i64 0, .string ⟨#[]⟩, .int .i64 0] (l.length * 3)) 38)) w.heap.size (l.take 0 ++ List.replicate (l.length - 0) default) := by
    unfold DatAt
    rw [made_dat]
    exact RowAt.new w _ _
  have hBn : Below w.heap.size w (w.alloc (.cells (madeCells #[.int .i64 0, .string ⟨#[]⟩, .int .i64 0] (l.length * 3)) 38)) := (Below.refl _ _).alloc (Nat.le_refl _) _
  have HN := hideT' (And.intro hnew hBn)
  clear hnew hBn
  rcases hv with ⟨rfl, rfl⟩ | ⟨A, cap, rfl, hA, hb⟩
  · have hmk : ∀ w, (Instr.makeSlice 25 (.int .i64 0) (.int .i64 0)).run Tryz.prog w = .ok (.slice (some ⟨w.heap.size, 0, none⟩) 0 0) (w.alloc (.cells (madeCells #[.int .i64 0, .string ⟨#[]⟩, .int .i64 0] (0 * 3)) 38)) := fun w => run_make_data 0 (by omega) w
    go_enter Tryz.func9, Tryz.ntmps9
    go_wp2_with fail
    clear hmk
    go_loopg [4] 0 (fun g i wr => i = .int .i64 0 ∧ DatAt wr w.heap.size [] ∧ Below w.heap.size w wr)
    case atStart => exact ⟨rfl, HN.out.1, HN.out.2⟩
    case round =>
      obtain ⟨rfl, hD, hW⟩ := hrel
      go_wp2
      go_ret
      exact ⟨⟨w.heap.size, rfl, Nat.le_refl _, hD⟩, hW⟩
  · have hmk := run_make_data l.length hl
    go_enter Tryz.func9, Tryz.ntmps9
    go_wp2_with fail
    clear hmk
    go_loopg [4] l.length (fun g i wr => ∃ k : Nat, g = l.length - k ∧ k ≤ l.length ∧ i = .int .i64 (k : Int) ∧ DatAt wr w.heap.size (l.take k ++ List.replicate (l.length - k) default) ∧ Below w.heap.size w wr)
    case atStart => exact ⟨0, rfl, by omega, rfl, HN.out.1, HN.out.2⟩
    case round =>
      obtain ⟨k, hg, hk, rfl, hD, hW⟩ := hrel
      have hsl := RowAt.lt hD
      by_cases hlt : (k : Int) < (l.length : Int)
      · have hk' : k < l.length := by omega
        have hAr : ArgAt wr A l := by
          rcases HV.out.below hW with ⟨h1, _⟩ | ⟨A', cap', h1, h2, _⟩
          · cases h1
          · cases h1; exact h2
        obtain ⟨d, hd⟩ : ∃ d, d = l.getD k default := ⟨_, rfl⟩
        have HDM := hideT' hd.symm
        clear hd
        have hlen : (l.take k ++ List.replicate (l.length - k) default).length = l.length := by simp; omega
        have HLN := hideT' hlen
        clear hlen
        go_wp2_with (refine load_arg rfl _ rfl A k rfl l hAr hk' d HDM.out ?_)
        refine (toDatum_any d _).mono ?_
        rintro e w2 ⟨rfl, hW2⟩
        have hD2 : DatAt w2 w.heap.size (l.take k ++ List.replicate (l.length - k) default) := RowAt.below hD hW2 hsl
        have hW3 := hW.trans (hW2.mono hW.size)
        have hs2 := hW2.size
        clear hD hW2
        go_wp2_with (refine store_dm rfl _ _ rfl rfl w.heap.size k d rfl rfl _ hD2 (by rw [HLN.out]; exact hk') ?_; intro w3 hD3 hg3 hs3)
        go_roundg (l.length - (k + 1))
        case measure => omega
        case rel =>
          have h1 : d = l[k] := by rw [← HDM.out]; exact getD_at l k hk'
          refine ⟨k + 1, rfl, by omega, by go_num, ?_, hW3.grown hg3 (by omega) (by intro k hk; injection hk; omega)⟩
          rw [h1, take_set l k hk'] at hD3
          exact hD3
      · have hkn : k = l.length := by omega
        subst hkn
        have hDl : DatAt wr w.heap.size l := by
          have := hD
          rwa [List.take_length, Nat.sub_self, List.replicate_zero, List.append_nil] at this
        clear hD
        go_wp2
        go_ret
        exact ⟨⟨w.heap.size, rfl, Nat.le_refl _, hDl⟩, hW⟩

set_option maxHeartbeats 1000000 in
set_option maxRecDepth 100000 in
theorem eqDatum_any (d : Dm) (w : World) :
    Calls Tryz.prog 30 #[.agg (dmC d), .agg (dmC d)] w fun e w' => e = .returned (.bool true) ∧ Below w.heap.size w w' := by
  obtain ⟨k, t, u⟩ := d
  show Calls Tryz.prog 30 #[.agg #[.int .i64 k, .string t, .int .i64 u], .agg #[.int .i64 k, .string t, .int .i64 u]] w fun e w' => e = .returned (.bool true) ∧ Below w.heap.size w w'
  go_enter Tryz.func30, Tryz.ntmps30
  go_wp2
  go_ret
  exact ⟨rfl, ((Below.refl _ _).alloc (Nat.le_refl _) _).alloc (by simp) _⟩

theorem run_dm {o : Oper} {a : Act} {w : World} (x : Operand) (ho : o.op = .load 38 x) (b i : Nat) (hx : a.eval x = .pointer (some ⟨b, i * 3, none⟩)) (l : List Dm) (hD : DatAt w b l) (hi : i < l.length) (d : Dm) (hd : l.getD i default = d) :
    (execOp a.eval o).run Tryz.prog w = .ok (.value (.agg (dmC d))) w := by
  subst hd
  have h := run_loadAt_mid (P := Tryz.prog) w b (i * 3) 38 (dmL (l.getD i default)) _ (dat_range hD hi) Tryz.underlying38 rfl zero_dm.2
  unfold execOp
  simp only [ho, hx, Sem.run_bind, h, Result.andThen_ok]
  rfl

set_option maxHeartbeats 1000000 in
set_option maxRecDepth 100000 in
theorem eqDatumS_any (b c : Nat) (l : List Dm) (w : World) (hl : l.length ≤ 1048576) (h1 : DatAt w b l) (h2 : DatAt w c l) :
    Calls Tryz.prog 11 #[slV b l, slV c l] w fun e w' => e = .returned (.bool true) ∧ Below w.heap.size w w' := by
  have H1 := hideT' h1
  have H2 := hideT' h2
  have hb := RowAt.lt h1
  have hc := RowAt.lt h2
  clear h1 h2
  go_enter Tryz.func11, Tryz.ntmps11
  go_wp2_with fail
  go_loopg [5] l.length (fun g i wr => ∃ k : Nat, g = l.length - k ∧ k ≤ l.length ∧ i = .int .i64 (k : Int) ∧ Below w.heap.size w wr)
  case atStart => exact ⟨0, rfl, by omega, rfl, Below.refl _ _⟩
  case round =>
    obtain ⟨k, hg, hk, rfl, hW⟩ := hrel
    by_cases hlt : (k : Int) < (l.length : Int)
    · have hk' : k < l.length := by omega
      obtain ⟨d, hd⟩ : ∃ d, d = l.getD k default := ⟨_, rfl⟩
      have HDM := hideT' hd.symm
      have hS : DatAt wr.drew b l ∧ DatAt wr.drew c l := ⟨RowAt.below H1.out (Below.drew hW) hb, RowAt.below H2.out (Below.drew hW) hc⟩
      clear hd
      go_wp2_with fail
      refine held_begin (fun w' => DatAt w' b l ∧ DatAt w' c l) (by kernel_rfl) ?_
      refine held_val 0 (some 17) rfl rfl (by kernel_rfl) (by kernel_rfl) (by kernel_rfl) noPanic_put rfl (slV b l) (fun _ => rfl) hS ?_
      simp only [Act.put, List.setIfInBounds_toArray, List.set_cons_zero, List.set_cons_succ]
      refine held_val 1 (some 18) rfl rfl (by kernel_rfl) (by kernel_rfl) (by kernel_rfl) noPanic_put rfl (.int .i64 (k : Int)) (fun _ => rfl) hS ?_
      simp only [Act.put, List.setIfInBounds_toArray, List.set_cons_zero, List.set_cons_succ]
      refine held_val 2 (some 19) rfl rfl (by kernel_rfl) (by kernel_rfl) (by kernel_rfl) noPanic_put rfl (.pointer (some ⟨b, k * 3, none⟩)) (fun _ => by go_simp) hS ?_
      simp only [Act.put, List.setIfInBounds_toArray, List.set_cons_zero, List.set_cons_succ]
      refine held_valS 3 (some 20) rfl rfl (by kernel_rfl) (by kernel_rfl) (by kernel_rfl) noPanic_put rfl (.agg (dmC d)) (fun _ hw' => run_dm _ rfl b k rfl l hw'.1 hk' d HDM.out) hS ?_
      simp only [Act.put, List.setIfInBounds_toArray, List.set_cons_zero, List.set_cons_succ]
      refine held_val 4 (some 21) rfl rfl (by kernel_rfl) (by kernel_rfl) (by kernel_rfl) noPanic_put rfl (slV c l) (fun _ => rfl) hS ?_
      simp only [Act.put, List.setIfInBounds_toArray, List.set_cons_zero, List.set_cons_succ]
      refine held_val 5 (some 22) rfl rfl (by kernel_rfl) (by kernel_rfl) (by kernel_rfl) noPanic_put rfl (.int .i64 (k : Int)) (fun _ => rfl) hS ?_
      simp only [Act.put, List.setIfInBounds_toArray, List.set_cons_zero, List.set_cons_succ]
      refine held_val 6 (some 23) rfl rfl (by kernel_rfl) (by kernel_rfl) (by kernel_rfl) noPanic_put rfl (.pointer (some ⟨c, k * 3, none⟩)) (fun _ => by go_simp) hS ?_
      simp only [Act.put, List.setIfInBounds_toArray, List.set_cons_zero, List.set_cons_succ]
      refine held_valS 7 (some 24) rfl rfl (by kernel_rfl) (by kernel_rfl) (by kernel_rfl) noPanic_put rfl (.agg (dmC d)) (fun _ hw' => run_dm _ rfl c k rfl l hw'.2 hk' d HDM.out) hS ?_
      simp only [Act.put, List.setIfInBounds_toArray, List.set_cons_zero, List.set_cons_succ]
      refine held_call 8 (some 25) (by kernel_rfl) rfl rfl rfl 30 #[.agg (dmC d), .agg (dmC d)] (by go_simp) _ (eqDatum_any d wr.drew) ?_
      rintro e w2 ⟨rfl, hW2⟩
      have hW2 : Below wr.heap.size wr w2 := ⟨hW2.os, hW2.tape, hW2.output, hW2.size, hW2.block⟩
      have hW3 := hW.trans (hW2.mono hW.size)
      have hS2 : DatAt w2 b l ∧ DatAt w2 c l := ⟨RowAt.below H1.out hW3 hb, RowAt.below H2.out hW3 hc⟩
      refine ⟨_, rfl, hS2, ?_⟩
      simp only [Act.put, List.setIfInBounds_toArray, List.set_cons_zero, List.set_cons_succ]
      refine held_val 9 (some 26) rfl rfl (by kernel_rfl) (by kernel_rfl) (by kernel_rfl) noPanic_put rfl (.bool false) (fun _ => by go_simp) hS2 ?_
      simp only [Act.put, List.setIfInBounds_toArray, List.set_cons_zero, List.set_cons_succ]
      refine wpAnyH_done (by kernel_rfl) ?_ _
      refine NoPanic.normal ?_
      go_wp2
      go_roundg (l.length - (k + 1))
      case measure => omega
      case rel => exact ⟨k + 1, rfl, by omega, by go_num, hW3⟩
    · go_wp2
      go_ret
      exact ⟨rfl, hW⟩
end Go.Proofs.YtjgpjafndaikcaaGreatDoor

/-
  What spec.GoodData answers.
-/
namespace Go.Proofs.YtjgpjafndaikcaaGreatDoor
open Go.RowKit
set_option linter.unusedVariables false

theorem dm_c1x {w : World} {b : Nat} {q : Int} {t : ByteArray} {y : Int} (h : DmAt w b ⟨q, t, y⟩) : w.cell? ⟨b, 1, none⟩ = some (.string t) := dm_c1 h
theorem node_eq {l : List Dm} {k : Nat} {q : Int} {t : ByteArray} {c : Nat} (hU : upOk l k = true) (hq : q = dk l k) (ht : t = dt l k) (hc : c = dep l (k + 1) (k : Int)) :
    nodeOk l k = ((txtOk q t.data.toList && decide ((c : Int) ≤ 25)) && dotOk l k) := by
  unfold nodeOk deepOk
  rw [hU, Bool.true_and, ← hq, ← ht, ← hc]
  congr 2
  exact decide_eq_decide.2 (by omega)
theorem dot_not6 {l : List Dm} {k : Nat} {q : Int} (hq : q = dk l k) (h : q ≠ 6) : dotOk l k = true := by
  unfold dotOk; rw [← hq, decide_eq_false h]; rfl
theorem dot_6 {l : List Dm} {k : Nat} (hq : (6 : Int) = dk l k) : dotOk l k = (decide (2 ≤ (prt l l.length k).length) && !lastL l (prt l l.length k)) := by
  unfold dotOk; rw [← hq]; rfl
theorem lastL_get {l : List Dm} {q : List Nat} (h : 0 < q.length) : lastL l q = isL (dk l (q.getD (q.length - 1) 0)) := by
  unfold lastL
  rw [List.getLast?_eq_getElem?, List.getElem?_eq_getElem (by omega)]
  simp [List.getD, List.getElem?_eq_getElem (show q.length - 1 < q.length by omega)]
theorem natI_get (q : List Nat) (i : Nat) : (natI q).getD i 0 = ((q.getD i 0 : Nat) : Int) := by
  unfold natI
  simp only [List.getD, List.getElem?_map]
  cases q[i]? <;> rfl
theorem prt_at {l : List Dm} {n k i : Nat} (h : i < (prt l n k).length) : (prt l n k).getD i 0 < n := by
  refine prt_mem (l := l) (n := n) (k := k) ?_
  simp only [List.getD, List.getElem?_eq_getElem h, Option.getD_some]
  exact List.getElem_mem _

set_option maxHeartbeats 4000000 in
set_option maxRecDepth 100000 in
theorem specGoodData_any (b : Nat) (l : List Dm) (w : World) (hs : ∀ i, i < l.length → (dt l i).size ≤ maxLen) (hD : DatAt w b l) :
    Calls Tryz.prog 8 #[slV b l] w fun e w' => e = .returned (.bool (goodAll l)) ∧ Below w.heap.size w w' := by
  have hz := zero_dm.1
  have HD := hideT' hD
  have HS := hideT' hs
  have hb := RowAt.lt hD
  clear hD hs
  by_cases hn : (300 : Int) < (l.length : Int)
  · have HN : Hid (goodAll l = false) := by unfold Hid goodAll; rw [decide_eq_false (by omega)]; rfl
    go_enter Tryz.func8, Tryz.ntmps8
    go_wp2
    go_ret
    exact ⟨by rw [HN.out]; rfl, Below.refl _ _⟩
  · have hn3 : l.length ≤ 300 := by omega
    go_enter Tryz.func8, Tryz.ntmps8
    go_wp2_with fail
    go_loopg [14] l.length (fun g i wr => ∃ k : Nat, g = l.length - k ∧ k ≤ l.length ∧ i = .int .i64 (k : Int) ∧ Hid (∀ j, j < k → nodeOk l j = true) ∧ Hid (Up l k) ∧ Below w.heap.size w wr)
    case atStart => exact ⟨0, rfl, by omega, rfl, fun j hj => by omega, fun j hj => by omega, Below.refl _ _⟩
    case round =>
      obtain ⟨k, hg, hk, rfl, HK, HU, hW⟩ := hrel
      have hWs := hW.size
      by_cases hlt : (k : Int) < (l.length : Int)
      · have hk' : k < l.length := by omega
        have hDr : DatAt wr b l := RowAt.below HD.out hW hb
        have A : DmAt (wr.alloc (.cells (dmC default) 38)) wr.heap.size default := RowAt.new wr _ _
        obtain ⟨q, t, y, hd, hq, ht, hy⟩ := dm_parts l k
        have HDM := hideT' hd
        have HQ := hideT' hq
        have HTX := hideT' ht
        have HY := hideT' hy
        have hts : t.size ≤ maxLen := by rw [ht]; exact HS.out k hk'
        clear hd hq ht hy
        go_wp2_with (first | (refine load_dm rfl _ rfl b k rfl l hDr hk' ⟨q, t, y⟩ HDM.out ?_) | (refine store_dv rfl _ _ rfl rfl wr.heap.size ⟨q, t, y⟩ rfl rfl default A ?_; intro w1 hN1 hg1 hs1; have c0 : w1.cell? ⟨wr.heap.size, 0, none⟩ = some (.int .i64 q) := dm_c0 hN1; have c1 : w1.cell? ⟨wr.heap.size, 1, none⟩ = some (.string t) := dm_c1 hN1; have c2 : w1.cell? ⟨wr.heap.size, 2, none⟩ = some (.int .i64 y) := dm_c2 hN1))
        have hW1 : Below w.heap.size w w1 := (hW.alloc hWs _).grown hg1 (by simp; omega) (by intro k hk; cases hk; omega)
        have hD1 : DatAt w1 b l := RowAt.below HD.out hW1 hb
        have hs1' : w1.heap.size = wr.heap.size + 1 := by rw [hs1]; simp
        clear A hg1 hs1 hDr hW
        have NO : Hid (nodeOk l k = false → goodAll l = false) := fun h => node_bad hk' h
        refine (l1In_any y (-1) _ _).mono ?_
        rintro e w' ⟨rfl, rfl⟩
        cases hin : (decide (-1 ≤ y) && decide (y ≤ (k : Int) - 1)) with
        | false =>
          have HF := hideT' (NO.out (node_upBad (by
            cases hu : upOk l k with
            | false => rfl
            | true =>
              have h2 := upOk_up HU.out hu
              rw [← HY.out] at h2
              rw [decide_eq_true h2.1, decide_eq_true (by omega)] at hin
              cases hin)))
          clear hin
          go_wp2
          go_ret
          exact ⟨by rw [HF.out]; rfl, hW1⟩
        | true =>
          clear hin
          go_wp2_with fail
          refine (l3Around_any b l k _ y _ rfl HY.out hk' hn3 hD1 HU.out).mono ?_
          rintro e w' ⟨rfl, rfl⟩
          cases hu : upOk l k with
          | false =>
            have HF := hideT' (NO.out (node_upBad hu))
            clear hu
            go_wp2
            go_ret
            exact ⟨by rw [HF.out]; rfl, hW1⟩
          | true =>
            have HOK := hideT' hu
            have HU2 : Hid (Up l (k + 1)) := HU.out.succ hu
            clear hu
            go_wp2_with fail
            go_loopg [5, 6] (k + 1) (fun g dp i wq => ∃ (c : Nat) (a : Int), dp = .int .i64 (c : Int) ∧ i = .int .i64 a ∧ -1 ≤ a ∧ a < (g : Int) ∧ c + g ≤ k + 1 ∧ Hid (c + dep l g a = dep l (k + 1) (k : Int)) ∧ wq = w')
            case atStart => exact ⟨0, (k : Int), rfl, rfl, by omega, by omega, by omega, by unfold Hid; omega, rfl⟩
            case round =>
              obtain ⟨c, a, rfl, rfl, ha, hag, hcg, HC, rfl⟩ := hrel
              by_cases h0 : 0 ≤ a
              · obtain ⟨j, rfl⟩ : ∃ j : Nat, a = (j : Int) := ⟨a.toNat, by omega⟩
                have hcu2 := dat_u hD1 (show j < l.length by omega)
                have hck2 := dat_k hD1 (show j < l.length by omega)
                have hu := HU2.out j (by omega)
                obtain ⟨gk', rfl⟩ : ∃ g', gk = g' + 1 := ⟨gk - 1, by omega⟩
                have HC1 : Hid (c + ((if isL (dk l j) then 1 else 0) + dep l gk' (du l j)) = dep l (k + 1) (k : Int)) := by
                  have := HC.out
                  rw [dep_step h0, Int.toNat_natCast] at this
                  exact this
                go_wp2_with fail
                refine (l3IsList_any _ _).mono ?_
                rintro e w2 ⟨rfl, rfl⟩
                cases hl : isL (dk l j) with
                | true =>
                  have HC2 : Hid (c + 1 + dep l gk' (du l j) = dep l (k + 1) (k : Int)) := by
                    have := HC1.out
                    rw [hl, if_pos rfl] at this
                    unfold Hid; omega
                  clear hl
                  go_wp2
                  go_roundg gk'
                  case measure => omega
                  case rel => exact ⟨c + 1, du l j, by go_num, rfl, hu.1, by omega, by omega, HC2, rfl⟩
                | false =>
                  have HC2 : Hid (c + dep l gk' (du l j) = dep l (k + 1) (k : Int)) := by
                    have := HC1.out
                    rw [hl] at this
                    simp only [Bool.false_eq_true, if_false, Nat.zero_add] at this
                    exact this
                  clear hl
                  go_wp2
                  go_roundg gk'
                  case measure => omega
                  case rel => exact ⟨c, du l j, rfl, rfl, hu.1, by omega, by omega, HC2, rfl⟩
              · have HND : Hid (nodeOk l k = ((txtOk q t.data.toList && decide ((c : Int) ≤ 25)) && dotOk l k)) := node_eq HOK.out HQ.out HTX.out (by
                  have := HC.out
                  rw [dep_end (by omega)] at this
                  omega)
                have GO : Hid (nodeOk l k = true → ∀ j, j < k + 1 → nodeOk l j = true) := fun h j hj => by
                  by_cases e : j = k
                  · subst e; exact h
                  · exact HK.out j (by omega)
                have e0 : (t.toList == []) = (t.data.toList == []) := by rw [ByteArray.toList_eq]
                have e1 : (t.toList == [116]) = (t.data.toList == [116]) := by rw [ByteArray.toList_eq]
                have e2 : (t.toList == [102]) = (t.data.toList == [102]) := by rw [ByteArray.toList_eq]
                clear HC HK
                by_cases hc : (c : Int) ≤ 25
                · rw [decide_eq_true hc] at HND
                  by_cases h1 : q = 1
                  · subst h1
                    have HND2 : Hid (nodeOk l k = okN t.data.toList) := by unfold Hid; rw [HND.out, dot_not6 HQ.out (by decide), Bool.and_true, Bool.and_true]; rfl
                    go_wp2_with fail
                    refine (specGoodNum_any t _ hts).mono ?_
                    rintro e w3 ⟨rfl, hW3⟩
                    have hW13 := hW1.trans (hW3.mono hW1.size)
                    cases ho : okN t.data.toList with
                    | true =>
                      have HK2 := hideT' (GO.out (by rw [HND2.out]; exact ho))
                      clear ho
                      go_wp2
                      go_roundg (l.length - (k + 1))
                      case measure => omega
                      case rel => exact ⟨k + 1, rfl, by omega, by go_num, HK2, HU2, hW13⟩
                    | false =>
                      have HF := hideT' (NO.out (by rw [HND2.out]; exact ho))
                      clear ho
                      go_wp2
                      go_ret
                      exact ⟨by rw [HF.out]; rfl, hW13⟩
                  · by_cases h2 : q = 2
                    · subst h2
                      have HND2 : Hid (nodeOk l k = symOk t.data.toList) := by unfold Hid; rw [HND.out, dot_not6 HQ.out (by decide), Bool.and_true, Bool.and_true]; rfl
                      go_wp2_with fail
                      refine (l3Symbol_any t _ hts).mono ?_
                      rintro e w3 ⟨rfl, hW3⟩
                      have hW13 := hW1.trans (hW3.mono hW1.size)
                      cases ho : symOk t.data.toList with
                      | true =>
                        have HK2 := hideT' (GO.out (by rw [HND2.out]; exact ho))
                        clear ho
                        go_wp2
                        go_roundg (l.length - (k + 1))
                        case measure => omega
                        case rel => exact ⟨k + 1, rfl, by omega, by go_num, HK2, HU2, hW13⟩
                      | false =>
                        have HF := hideT' (NO.out (by rw [HND2.out]; exact ho))
                        clear ho
                        go_wp2
                        go_ret
                        exact ⟨by rw [HF.out]; rfl, hW13⟩
                    · by_cases h3 : q = 3
                      · subst h3
                        have HND2 : Hid (nodeOk l k = strOk t.data.toList) := by unfold Hid; rw [HND.out, dot_not6 HQ.out (by decide), Bool.and_true, Bool.and_true]; rfl
                        go_wp2_with fail
                        refine (l3String_any t _ hts).mono ?_
                        rintro e w3 ⟨rfl, rfl⟩
                        cases ho : strOk t.data.toList with
                        | true =>
                          have HK2 := hideT' (GO.out (by rw [HND2.out]; exact ho))
                          clear ho
                          go_wp2
                          go_roundg (l.length - (k + 1))
                          case measure => omega
                          case rel => exact ⟨k + 1, rfl, by omega, by go_num, HK2, HU2, hW1⟩
                        | false =>
                          have HF := hideT' (NO.out (by rw [HND2.out]; exact ho))
                          clear ho
                          go_wp2
                          go_ret
                          exact ⟨by rw [HF.out]; rfl, hW1⟩
                      · by_cases h4 : q = 4
                        · subst h4
                          have HND2 : Hid (nodeOk l k = ((t.data.toList == [116]) || (t.data.toList == [102]))) := by unfold Hid; rw [HND.out, dot_not6 HQ.out (by decide), Bool.and_true, Bool.and_true]; rfl
                          cases g1 : (t.data.toList == [116]) with
                          | true =>
                            rw [g1] at e1
                            have HK2 := hideT' (GO.out (by rw [HND2.out, g1]; rfl))
                            clear g1 e0 e2
                            go_wp2
                            go_roundg (l.length - (k + 1))
                            case measure => omega
                            case rel => exact ⟨k + 1, rfl, by omega, by go_num, HK2, HU2, hW1⟩
                          | false =>
                            rw [g1] at e1
                            cases g2 : (t.data.toList == [102]) with
                            | true =>
                              rw [g2] at e2
                              have HK2 := hideT' (GO.out (by rw [HND2.out, g1, g2]; rfl))
                              clear g1 g2 e0
                              go_wp2
                              go_roundg (l.length - (k + 1))
                              case measure => omega
                              case rel => exact ⟨k + 1, rfl, by omega, by go_num, HK2, HU2, hW1⟩
                            | false =>
                              rw [g2] at e2
                              have HF := hideT' (NO.out (by rw [HND2.out, g1, g2]; rfl))
                              clear g1 g2 e0
                              go_wp2
                              go_ret
                              exact ⟨by rw [HF.out]; rfl, hW1⟩
                        · by_cases h5 : q = 5
                          · subst h5
                            have HND2 : Hid (nodeOk l k = (t.data.toList == [])) := by unfold Hid; rw [HND.out, dot_not6 HQ.out (by decide), Bool.and_true, Bool.and_true]; rfl
                            cases g1 : (t.data.toList == []) with
                            | true =>
                              rw [g1] at e0
                              have HK2 := hideT' (GO.out (by rw [HND2.out]; exact g1))
                              clear g1 e1 e2
                              go_wp2
                              go_roundg (l.length - (k + 1))
                              case measure => omega
                              case rel => exact ⟨k + 1, rfl, by omega, by go_num, HK2, HU2, hW1⟩
                            | false =>
                              rw [g1] at e0
                              have HF := hideT' (NO.out (by rw [HND2.out]; exact g1))
                              clear g1 e1 e2
                              go_wp2
                              go_ret
                              exact ⟨by rw [HF.out]; rfl, hW1⟩
                          · by_cases h6 : q = 6
                            · subst h6
                              have HND2 : Hid (nodeOk l k = ((t.data.toList == []) && (decide (2 ≤ (prt l l.length k).length) && !lastL l (prt l l.length k)))) := by unfold Hid; rw [HND.out, dot_6 HQ.out, Bool.and_true]; rfl
                              go_wp2_with fail
                              refine (l3Parts_any b l k _ _ rfl hk' hn3 hD1).mono ?_
                              rintro e w3 ⟨v, rfl, hown, hW3⟩
                              have hW13 := hW1.trans (hW3.mono hW1.size)
                              have c1' := dm_c1x (RowAt.below hN1 hW3 (by omega))
                              have hD3 : DatAt w3 b l := RowAt.below HD.out hW13 hb
                              have hpl := prt_len l l.length k
                              have PM : Hid (∀ i, i < (prt l l.length k).length → (prt l l.length k).getD i 0 < l.length) := fun i hi => prt_at hi
                              have LG : Hid (0 < (prt l l.length k).length → lastL l (prt l l.length k) = isL (dk l ((prt l l.length k).getD ((prt l l.length k).length - 1) 0))) := fun h => lastL_get h
                              have OC : Hid (0 < (prt l l.length k).length → ∃ g cap, v = .slice (some ⟨g, 0, none⟩) (prt l l.length k).length cap ∧ w3.cell? ⟨g, (prt l l.length k).length - 1, none⟩ = some (.int .i64 (((prt l l.length k).getD ((prt l l.length k).length - 1) 0 : Nat) : Int)) ∧ (prt l l.length k).length ≤ cap) := fun h => by
                                obtain ⟨g, cap, rfl, _, _, hcap, _⟩ := own_form hown h
                                have := own_cell hown ((prt l l.length k).length - 1) (by rw [natI_len]; omega)
                                rw [natI_get] at this
                                exact ⟨g, cap, rfl, this, hcap⟩
                              obtain ⟨o, cap, hv⟩ := own_form8 hown
                              obtain ⟨P, hP⟩ : ∃ P, P = prt l l.length k := ⟨_, rfl⟩
                              rw [← hP] at HND2 hpl PM LG OC hv
                              clear hP hown hW3
                              obtain ⟨m, hm⟩ : ∃ m, m = P.length := ⟨_, rfl⟩
                              rw [← hm] at HND2 hpl PM LG OC hv
                              clear hm
                              cases g1 : (t.data.toList == []) with
                              | false =>
                                rw [g1] at e0
                                have HF := hideT' (NO.out (by rw [HND2.out, g1]; rfl))
                                subst hv
                                clear g1 e1 e2 OC
                                go_wp2
                                go_ret
                                exact ⟨by rw [HF.out]; rfl, hW13⟩
                              | true =>
                                rw [g1] at e0
                                by_cases hm1 : (1 : Int) < (m : Int)
                                · obtain ⟨g, cap', hv', hcl, hcap⟩ := OC.out (by omega)
                                  subst hv'
                                  clear hv
                                  obtain ⟨z, hz'⟩ : ∃ z, z = P.getD (m - 1) 0 := ⟨_, rfl⟩
                                  have hzl : z < l.length := by rw [hz']; exact PM.out _ (by omega)
                                  rw [← hz'] at hcl
                                  have HND3 : Hid (nodeOk l k = !isL (dk l z)) := by unfold Hid; rw [HND2.out, g1, decide_eq_true (by omega), LG.out (by omega), ← hz']; rfl
                                  obtain ⟨m1, rfl⟩ : ∃ m1, m = m1 + 1 := ⟨m - 1, by omega⟩
                                  rw [Nat.add_sub_cancel] at hcl
                                  have hck := dat_k hD3 hzl
                                  clear g1 e1 e2 OC hz' HND2 LG PM
                                  go_wp2_with fail
                                  refine (l3IsList_any _ _).mono ?_
                                  rintro e w4 ⟨rfl, rfl⟩
                                  cases ho : isL (dk l z) with
                                  | false =>
                                    have HK2 := hideT' (GO.out (by rw [HND3.out, ho]; rfl))
                                    clear ho
                                    go_wp2
                                    go_roundg (l.length - (k + 1))
                                    case measure => omega
                                    case rel => exact ⟨k + 1, rfl, by omega, by go_num, HK2, HU2, hW13⟩
                                  | true =>
                                    have HF := hideT' (NO.out (by rw [HND3.out, ho]; rfl))
                                    clear ho
                                    go_wp2
                                    go_ret
                                    exact ⟨by rw [HF.out]; rfl, hW13⟩
                                · have HF := hideT' (NO.out (by rw [HND2.out, g1, decide_eq_false (by omega)]; rfl))
                                  subst hv
                                  clear g1 e1 e2 OC
                                  go_wp2
                                  go_ret
                                  exact ⟨by rw [HF.out]; rfl, hW13⟩
                            · have f1 : (q == 1) = false := beq_eq_false_iff_ne.2 h1
                              have f2 : (q == 2) = false := beq_eq_false_iff_ne.2 h2
                              have f3 : (q == 3) = false := beq_eq_false_iff_ne.2 h3
                              have f4 : (q == 4) = false := beq_eq_false_iff_ne.2 h4
                              have f5 : (q == 5) = false := beq_eq_false_iff_ne.2 h5
                              have f6 : (q == 6) = false := beq_eq_false_iff_ne.2 h6
                              have HF := hideT' (NO.out (by rw [HND.out, txt_else h1 h2 h3 h4]; unfold isL; rw [decide_eq_false h5, decide_eq_false h6]; rfl))
                              clear h1 h2 h3 h4 h5 h6
                              go_wp2
                              go_ret
                              exact ⟨by rw [HF.out]; rfl, hW1⟩
                · have HF := hideT' (NO.out (by rw [HND.out, decide_eq_false hc, Bool.and_false]; rfl))
                  by_cases h1 : q = 1
                  · subst h1
                    go_wp2
                    go_ret
                    exact ⟨by rw [HF.out]; rfl, hW1⟩
                  · by_cases h2 : q = 2
                    · subst h2
                      go_wp2
                      go_ret
                      exact ⟨by rw [HF.out]; rfl, hW1⟩
                    · by_cases h3 : q = 3
                      · subst h3
                        go_wp2
                        go_ret
                        exact ⟨by rw [HF.out]; rfl, hW1⟩
                      · by_cases h4 : q = 4
                        · subst h4
                          go_wp2
                          go_ret
                          exact ⟨by rw [HF.out]; rfl, hW1⟩
                        · by_cases h5 : q = 5
                          · subst h5
                            go_wp2
                            go_ret
                            exact ⟨by rw [HF.out]; rfl, hW1⟩
                          · by_cases h6 : q = 6
                            · subst h6
                              go_wp2_with fail
                              refine (l3Parts_any b l k _ _ rfl hk' hn3 hD1).mono ?_
                              rintro e w3 ⟨v, rfl, hown, hW3⟩
                              obtain ⟨o, cap, rfl⟩ := own_form8 hown
                              have hW13 := hW1.trans (hW3.mono hW1.size)
                              have c1' := dm_c1x (RowAt.below hN1 hW3 (by omega))
                              go_wp2
                              go_ret
                              exact ⟨by rw [HF.out]; rfl, hW13⟩
                            · have f1 : (q == 1) = false := beq_eq_false_iff_ne.2 h1
                              have f2 : (q == 2) = false := beq_eq_false_iff_ne.2 h2
                              have f3 : (q == 3) = false := beq_eq_false_iff_ne.2 h3
                              have f4 : (q == 4) = false := beq_eq_false_iff_ne.2 h4
                              have f5 : (q == 5) = false := beq_eq_false_iff_ne.2 h5
                              have f6 : (q == 6) = false := beq_eq_false_iff_ne.2 h6
                              clear h1 h2 h3 h4 h5 h6
                              go_wp2
                              go_ret
                              exact ⟨by rw [HF.out]; rfl, hW1⟩
      · have HG := hideT' (node_all hn3 (fun j hj => HK.out j (by omega)))
        go_wp2
        go_ret
        exact ⟨by rw [HG.out]; rfl, hW⟩
end Go.Proofs.YtjgpjafndaikcaaGreatDoor

/-
  What impl.GoodData answers.
-/
namespace Go.Proofs.YtjgpjafndaikcaaGreatDoor
open Go.RowKit
set_option linter.unusedVariables false

theorem one_int : (Tryz.prog.info? 3).map (·.size) = some 1 := by kernel_rfl
theorem one_bool : (Tryz.prog.info? 4).map (·.size) = some 1 := by kernel_rfl
theorem seat_a {w : World} {sb : Nat} {l : List Dm} {k j : Nat} (h : SeatAt w sb l k) (hj : j < l.length) (r : Int) (hr : r = ((if j < k then arnd l j else 0 : Nat) : Int)) : w.cell? ⟨sb, j * 3, none⟩ = some (.int .i64 r) := by
  rw [World.rowIs.cell h (by omega), seatF0, hr]
theorem seat_p {w : World} {sb : Nat} {l : List Dm} {k j : Nat} (h : SeatAt w sb l k) (hj : j < l.length) (r : Int) (hr : r = ((prt l k j).length : Int)) : w.cell? ⟨sb, j * 3 + 1, none⟩ = some (.int .i64 r) := by
  rw [World.rowIs.cell h (by omega), seatF1, hr]
theorem seat_e {w : World} {sb : Nat} {l : List Dm} {k j : Nat} (h : SeatAt w sb l k) (hj : j < l.length) (r : Bool) (hr : r = lastL l (prt l k j)) : w.cell? ⟨sb, j * 3 + 2, none⟩ = some (.bool r) := by
  rw [World.rowIs.cell h (by omega), seatF2, hr]
theorem arnd_le {l : List Dm} {j : Nat} (h : deepOk l j = true) : arnd l j ≤ 25 := by
  unfold deepOk at h
  rw [deep_arnd] at h
  have := of_decide_eq_true h
  omega
theorem deep_of {l : List Dm} {k : Nat} (hl : isL (dk l k) = true) : deepOk l k = decide (arnd l k < 25) := by
  unfold deepOk
  rw [deep_arnd, if_pos hl]
  exact decide_eq_decide.2 (by omega)
theorem deep_ofn {l : List Dm} {k : Nat} (hl : isL (dk l k) = false) (h : arnd l k ≤ 25) : deepOk l k = true := by
  unfold deepOk
  rw [deep_arnd, hl]
  exact decide_eq_true (by simpa using h)

def OkTo (l : List Dm) (k : Nat) : Prop := ∀ j, j < k → upOk l j = true ∧ txtOk (dk l j) (dt l j).data.toList = true ∧ deepOk l j = true
theorem OkTo.succ {l : List Dm} {k : Nat} (h : OkTo l k) (h1 : upOk l k = true) (h2 : txtOk (dk l k) (dt l k).data.toList = true) (h3 : deepOk l k = true) : OkTo l (k + 1) := fun j hj => by
  by_cases e : j = k
  · subst e; exact ⟨h1, h2, h3⟩
  · exact h j (by omega)

set_option maxHeartbeats 4000000 in
set_option maxRecDepth 100000 in
/-- Lists around each other, and dotted ones, where all nodes stand in good places and have good texts. -/
theorem goodLists_any (b : Nat) (l : List Dm) (w : World) (hn3 : l.length ≤ 300) (hA : ∀ j, j < l.length → upOk l j = true ∧ txtOk (dk l j) (dt l j).data.toList = true) (hD : DatAt w b l) :
    Calls Tryz.prog 29 #[slV b l] w fun e w' => e = .returned (.bool (goodAll l)) ∧ Below w.heap.size w w' := by
  have hz := zero_dm.1
  have HD := hideT' hD
  have HA := hideT' hA
  have hb := RowAt.lt hD
  clear hD hA
  · have hmk := run_make_seats l.length hn3
    go_enter Tryz.func29, Tryz.ntmps29
    go_wp2_with fail
    clear hmk
    go_loopg [13] l.length (fun g i wr => ∃ k : Nat, g = l.length - k ∧ k ≤ l.length ∧ i = .int .i64 (k : Int) ∧ Hid (OkTo l k) ∧ Hid (Up l k) ∧ SeatAt wr w.heap.size l k ∧ Below w.heap.size w wr)
    case atStart => exact ⟨0, rfl, by omega, rfl, fun j hj => by omega, fun j hj => by omega, seats_new w l, (Below.refl _ _).alloc (Nat.le_refl _) _⟩
    case round =>
      obtain ⟨k, hg, hk, rfl, HK, HU, hSt, hW⟩ := hrel
      have hWs := hW.size
      by_cases hlt : (k : Int) < (l.length : Int)
      · have hk' : k < l.length := by omega
        have hDr : DatAt wr b l := RowAt.below HD.out hW hb
        have hsl : w.heap.size < wr.heap.size := World.rowIs.lt hSt
        have A : DmAt (wr.alloc (.cells (dmC default) 38)) wr.heap.size default := RowAt.new wr _ _
        obtain ⟨q, t, y, hd, hq, ht, hy⟩ := dm_parts l k
        have HDM := hideT' hd
        have HQ := hideT' hq
        have HTX := hideT' ht
        have HY := hideT' hy
        clear hd hq ht hy
        have NO : Hid (nodeOk l k = false → goodAll l = false) := fun h => node_bad hk' h
        have HOK : Hid (upOk l k = true) := (HA.out k hk').1
        have HTO : Hid (txtOk (dk l k) (dt l k).data.toList = true) := (HA.out k hk').2
        have HU2 : Hid (Up l (k + 1)) := HU.out.succ HOK.out
        have hyr := upOk_up HU.out HOK.out
        rw [← HY.out] at hyr
        have WALK : ∀ (w2 : World), DmAt w2 wr.heap.size ⟨q, t, y⟩ → (wr.alloc (.cells (dmC default) 38)).grownBy w2 (some wr.heap.size) → w2.cell? ⟨wr.heap.size, 0, none⟩ = some (.int .i64 q) ∧ w2.cell? ⟨wr.heap.size, 2, none⟩ = some (.int .i64 y) ∧ SeatAt w2 w.heap.size l k ∧ Below w.heap.size w w2 := by
          intro w2 hN2 hg2
          exact ⟨dm_c0 hN2, dm_c2 hN2, SeatAt.grown (World.rowIs.alloc hSt _) hg2 (by intro e; injection e; omega), (hW.alloc hWs _).grown hg2 (by simp; omega) (by intro k hk; injection hk; omega)⟩
        have WK := hideT' WALK
        clear WALK
        clear hW hSt
        · · by_cases hy0 : 0 ≤ y
            · obtain ⟨j, rfl⟩ : ∃ j : Nat, y = (j : Int) := ⟨y.toNat, by omega⟩
              have hjk : j < k := by omega
              have hjl : isL (dk l j) = true := by
                have := upOk_list HOK.out (by rw [← HY.out]; exact hy0)
                rwa [← HY.out, Int.toNat_natCast] at this
              have HJL := hideT' hjl
              have haj := arnd_le (HK.out j hjk).2.2
              obtain ⟨r, hr⟩ : ∃ r : Int, r = (arnd l j : Int) := ⟨_, rfl⟩
              obtain ⟨p, hp⟩ : ∃ p : Int, p = ((prt l k j).length : Int) := ⟨_, rfl⟩
              have hr0 : 0 ≤ r := by omega
              have hr1 : r ≤ 25 := by omega
              have hp0 : 0 ≤ p := by omega
              have hp1 : p ≤ 300 := by have := prt_len l k j; omega
              have HR := hideT' hr
              have HP := hideT' hp
              clear hjl haj hr hp
              go_wp2_with (first | (refine load_dm rfl _ rfl b k rfl l hDr hk' ⟨q, t, (j : Int)⟩ HDM.out ?_) | (refine store_dv rfl _ _ rfl rfl wr.heap.size ⟨q, t, (j : Int)⟩ rfl rfl default A ?_; intro w2 hN2 hg2 hs2; have hK2 := WK.out w2 hN2 hg2; have d0 := hK2.1; have d2 := hK2.2.1; have hSt2 := hK2.2.2.1; have hWw2 := hK2.2.2.2; have hs2' : w2.heap.size = wr.heap.size + 1 := (by rw [hs2]; simp); have ca := seat_a hSt2 (show j < l.length by omega) r (by rw [if_pos hjk]; exact HR.out); clear hK2 hg2 hs2) | (refine store_cell rfl 3 _ _ rfl rfl w.heap.size (k * 3) (.int .i64 (r + 1)) rfl rfl one_int rfl 66 (3 * l.length) (seatF l k) hSt2 (by omega) ?_; intro w3 hR3 hg3 hs3; have cp : w3.cell? ⟨w.heap.size, j * 3 + 1, none⟩ = some (.int .i64 p) := (by rw [World.rowIs.cell hR3 (by omega), if_neg (by omega), seatF1, HP.out]); have d2' : w3.cell? ⟨wr.heap.size, 2, none⟩ = some (.int .i64 (j : Int)) := dm_c2 (RowAt.grown hN2 hg3 (by intro e; injection e; omega))) | (refine store_cell rfl 3 _ _ rfl rfl w.heap.size (j * 3 + 1) (.int .i64 (p + 1)) rfl rfl one_int rfl 66 (3 * l.length) _ hR3 (by omega) ?_; intro w4 hR4 hg4 hs4))
              have hN4 : DmAt w4 wr.heap.size ⟨q, t, (j : Int)⟩ := RowAt.grown (RowAt.grown hN2 hg3 (by intro e; injection e; omega)) hg4 (by intro e; injection e; omega)
              have hW4 : Below w.heap.size w w4 := (hWw2.grown hg3 (by omega) (by intro k hk; injection hk; omega)).grown hg4 (by omega) (by intro k hk; injection hk; omega)
              have hj3 : (j : Int) < (l.length : Int) := by omega
              clear hSt2 hR3 cp d2' ca d0 d2 hN2 hWw2 hg3 hg4
              refine held_begin (fun w' => w'.cell? ⟨wr.heap.size, 2, none⟩ = some (.int .i64 (j : Int)) ∧ w'.cell? ⟨wr.heap.size, 0, none⟩ = some (.int .i64 q)) (by kernel_rfl) ?_
              have hS : w4.drew.cell? ⟨wr.heap.size, 2, none⟩ = some (.int .i64 (j : Int)) ∧ w4.drew.cell? ⟨wr.heap.size, 0, none⟩ = some (.int .i64 q) := ⟨dm_c2 hN4, dm_c0 hN4⟩
              refine held_val 0 (some 41) rfl rfl (by kernel_rfl) (by kernel_rfl) (by kernel_rfl) noPanic_put rfl (.slice (some ⟨w.heap.size, 0, none⟩) l.length l.length) (fun _ => rfl) hS ?_
              simp only [Act.put, List.setIfInBounds_toArray, List.set_cons_zero, List.set_cons_succ]
              refine held_val 1 (some 42) rfl rfl (by kernel_rfl) (by kernel_rfl) (by kernel_rfl) noPanic_put rfl (.pointer (some ⟨wr.heap.size, 2, none⟩)) (fun _ => by go_simp) hS ?_
              simp only [Act.put, List.setIfInBounds_toArray, List.set_cons_zero, List.set_cons_succ]
              refine held_valS 2 (some 43) rfl rfl (by kernel_rfl) (by kernel_rfl) (by kernel_rfl) noPanic_put rfl (.int .i64 (j : Int)) (fun _ hw' => by have h1 := hw'.1; go_simp) hS ?_
              simp only [Act.put, List.setIfInBounds_toArray, List.set_cons_zero, List.set_cons_succ]
              refine held_val 3 (some 44) rfl rfl (by kernel_rfl) (by kernel_rfl) (by kernel_rfl) noPanic_put rfl (.pointer (some ⟨wr.heap.size, 0, none⟩)) (fun _ => by go_simp) hS ?_
              simp only [Act.put, List.setIfInBounds_toArray, List.set_cons_zero, List.set_cons_succ]
              refine held_valS 4 (some 45) rfl rfl (by kernel_rfl) (by kernel_rfl) (by kernel_rfl) noPanic_put rfl (.int .i64 q) (fun _ hw' => by have h1 := hw'.2; go_simp) hS ?_
              simp only [Act.put, List.setIfInBounds_toArray, List.set_cons_zero, List.set_cons_succ]
              refine held_call 5 (some 46) (by kernel_rfl) rfl rfl rfl 39 #[.int .i64 q] (by go_simp) _ (isList_any q w4.drew) ?_
              rintro e w4' ⟨rfl, rfl⟩
              refine ⟨_, rfl, hS, ?_⟩
              simp only [Act.put, List.setIfInBounds_toArray, List.set_cons_zero, List.set_cons_succ]
              refine held_val 6 (some 47) rfl rfl (by kernel_rfl) (by kernel_rfl) (by kernel_rfl) noPanic_put rfl (.pointer (some ⟨w.heap.size, j * 3, none⟩)) (fun _ => by go_simp) hS ?_
              simp only [Act.put, List.setIfInBounds_toArray, List.set_cons_zero, List.set_cons_succ]
              refine held_val 7 (some 48) rfl rfl (by kernel_rfl) (by kernel_rfl) (by kernel_rfl) noPanic_put rfl (.pointer (some ⟨w.heap.size, j * 3 + 2, none⟩)) (fun _ => by go_simp) hS ?_
              simp only [Act.put, List.setIfInBounds_toArray, List.set_cons_zero, List.set_cons_succ]
              refine held_store_cell 8 (by kernel_rfl) rfl rfl 4 _ _ rfl rfl w.heap.size (j * 3 + 2) (.bool (isL q)) rfl rfl one_bool rfl 66 (3 * l.length) _ (World.rowIs.drew hR4) (by omega) ?_
              intro w5 hR5 hg5 hs5
              have hN5 : DmAt w5 wr.heap.size ⟨q, t, (j : Int)⟩ := RowAt.grown (show DmAt w4.drew wr.heap.size ⟨q, t, (j : Int)⟩ from hN4) hg5 (by intro e; injection e; omega)
              have hW5 : Below w.heap.size w w5 := (Below.drew hW4).grown hg5 (by have := hW4.size; exact this) (by intro k hk; injection hk; omega)
              refine ⟨⟨dm_c2 hN5, dm_c0 hN5⟩, ?_⟩
              refine wpAnyH_done (by kernel_rfl) ?_ _
              refine NoPanic.normal ?_
              have hSt5 : SeatAt w5 w.heap.size l (k + 1) := seat_some HU.out HY.out.symm hjk HJL.out (by have h := hR5; rw [HQ.out, HP.out, HR.out] at h; exact h)
              have d0 : w5.cell? ⟨wr.heap.size, 0, none⟩ = some (.int .i64 q) := dm_c0 hN5
              have hak : arnd l k ≤ 25 := by
                rw [arnd_some HU.out HY.out.symm hjk HJL.out]
                have h1 := (HK.out j hjk).2.2
                rw [deep_of HJL.out] at h1
                have := of_decide_eq_true h1
                omega
              clear hR4 hR5 hS hg5 hN4 hN5 hW4
              obtain ⟨z, hz'⟩ : ∃ z : Int, z = (arnd l k : Int) := ⟨_, rfl⟩
              have cz := seat_a hSt5 hk' z (by rw [if_pos (by omega)]; exact hz')
              have HZ := hideT' hz'
              have HAK := hideT' hak
              clear hz' hak
              go_wp2_with fail
              refine (isList_any _ _).mono ?_
              rintro e w6 ⟨rfl, rfl⟩
              cases hil : isL q with
              | false =>
                have HOK2 : Hid (OkTo l (k + 1)) := HK.out.succ HOK.out HTO.out (deep_ofn (by rw [← HQ.out]; exact hil) HAK.out)
                clear hil
                go_wp2
                go_roundg (l.length - (k + 1))
                case measure => omega
                case rel => exact ⟨k + 1, rfl, by omega, by go_num, HOK2, HU2, hSt5, hW5⟩
              | true =>
                have HDE := hideT' (deep_of (l := l) (k := k) (by rw [← HQ.out]; exact hil))
                clear hil
                by_cases h25 : 25 ≤ z
                · have HF := hideT' (NO.out (node_deepBad (by rw [HDE.out]; exact decide_eq_false (by have := HZ.out; omega))))
                  go_wp2
                  go_ret
                  exact ⟨by rw [HF.out]; rfl, hW5⟩
                · have HOK2 : Hid (OkTo l (k + 1)) := HK.out.succ HOK.out HTO.out (by rw [HDE.out]; exact decide_eq_true (by have := HZ.out; omega))
                  go_wp2
                  go_roundg (l.length - (k + 1))
                  case measure => omega
                  case rel => exact ⟨k + 1, rfl, by omega, by go_num, HOK2, HU2, hSt5, hW5⟩
            · go_wp2_with (first | (refine load_dm rfl _ rfl b k rfl l hDr hk' ⟨q, t, y⟩ HDM.out ?_) | (refine store_dv rfl _ _ rfl rfl wr.heap.size ⟨q, t, y⟩ rfl rfl default A ?_; intro w2 hN2 hg2 hs2; have hK2 := WK.out w2 hN2 hg2; have d0 := hK2.1; have d2 := hK2.2.1; have hSt2 := hK2.2.2.1; have hWw2 := hK2.2.2.2; have hs2' : w2.heap.size = wr.heap.size + 1 := (by rw [hs2]; simp); clear hK2 hg2 hs2))
              have hSt5 : SeatAt w2 w.heap.size l (k + 1) := seat_none hSt2 (by rw [← HY.out]; omega)
              have hak : arnd l k ≤ 25 := by rw [arnd_none (by rw [← HY.out]; omega)]; omega
              clear hSt2
              obtain ⟨z, hz'⟩ : ∃ z : Int, z = (arnd l k : Int) := ⟨_, rfl⟩
              have cz := seat_a hSt5 hk' z (by rw [if_pos (by omega)]; exact hz')
              have HZ := hideT' hz'
              have HAK := hideT' hak
              clear hz' hak
              refine (isList_any _ _).mono ?_
              rintro e w6 ⟨rfl, rfl⟩
              cases hil : isL q with
              | false =>
                have HOK2 : Hid (OkTo l (k + 1)) := HK.out.succ HOK.out HTO.out (deep_ofn (by rw [← HQ.out]; exact hil) HAK.out)
                clear hil
                go_wp2
                go_roundg (l.length - (k + 1))
                case measure => omega
                case rel => exact ⟨k + 1, rfl, by omega, by go_num, HOK2, HU2, hSt5, hWw2⟩
              | true =>
                have HDE := hideT' (deep_of (l := l) (k := k) (by rw [← HQ.out]; exact hil))
                clear hil
                by_cases h25 : 25 ≤ z
                · have HF := hideT' (NO.out (node_deepBad (by rw [HDE.out]; exact decide_eq_false (by have := HZ.out; omega))))
                  go_wp2
                  go_ret
                  exact ⟨by rw [HF.out]; rfl, hWw2⟩
                · have HOK2 : Hid (OkTo l (k + 1)) := HK.out.succ HOK.out HTO.out (by rw [HDE.out]; exact decide_eq_true (by have := HZ.out; omega))
                  go_wp2
                  go_roundg (l.length - (k + 1))
                  case measure => omega
                  case rel => exact ⟨k + 1, rfl, by omega, by go_num, HOK2, HU2, hSt5, hWw2⟩
      · have hkn : k = l.length := by omega
        subst hkn
        clear hk hlt hg
        have hsl : w.heap.size < wr.heap.size := World.rowIs.lt hSt
        go_wp2_with fail
        go_loopg [63] l.length (fun g i wq => ∃ k : Nat, g = l.length - k ∧ k ≤ l.length ∧ i = .int .i64 (k : Int) ∧ Hid (∀ j, j < k → nodeOk l j = true) ∧ SeatAt wq w.heap.size l l.length ∧ Below w.heap.size w wq)
        case atStart => exact ⟨0, rfl, by omega, rfl, fun j hj => by omega, hSt, hW⟩
        case round =>
          clear hSt hW hWs hsl
          obtain ⟨k, hg, hk, rfl, HN, hSt, hW⟩ := hrel
          have hWs := hW.size
          have hsl : w.heap.size < wr.heap.size := World.rowIs.lt hSt
          by_cases hlt : (k : Int) < (l.length : Int)
          · have hk' : k < l.length := by omega
            have hDr : DatAt wr b l := RowAt.below HD.out hW hb
            have A : DmAt (wr.alloc (.cells (dmC default) 38)) wr.heap.size default := RowAt.new wr _ _
            obtain ⟨q, t, y, hd, hq, ht, hy⟩ := dm_parts l k
            have HDM := hideT' hd
            have HQ := hideT' hq
            obtain ⟨p, hp⟩ : ∃ p : Int, p = ((prt l l.length k).length : Int) := ⟨_, rfl⟩
            obtain ⟨z, hz'⟩ : ∃ z : Bool, z = lastL l (prt l l.length k) := ⟨_, rfl⟩
            have HP := hideT' hp
            have HZ := hideT' hz'
            have HND : Hid (nodeOk l k = dotOk l k) := by
              obtain ⟨h1, h2, h3⟩ := HK.out k hk'
              unfold Hid nodeOk
              rw [h1, h2, h3]; rfl
            have NO : Hid (nodeOk l k = false → goodAll l = false) := fun h => node_bad hk' h
            have GO : Hid (nodeOk l k = true → ∀ j, j < k + 1 → nodeOk l j = true) := fun h j hj => by
              by_cases e : j = k
              · subst e; exact h
              · exact HN.out j (by omega)
            clear hd hq ht hy hp hz'
            have WALK : ∀ (w1 : World), DmAt w1 wr.heap.size ⟨q, t, y⟩ → (wr.alloc (.cells (dmC default) 38)).grownBy w1 (some wr.heap.size) → w1.cell? ⟨wr.heap.size, 0, none⟩ = some (.int .i64 q) ∧ w1.cell? ⟨w.heap.size, k * 3 + 1, none⟩ = some (.int .i64 p) ∧ w1.cell? ⟨w.heap.size, k * 3 + 2, none⟩ = some (.bool z) ∧ SeatAt w1 w.heap.size l l.length ∧ Below w.heap.size w w1 := fun w1 hN1 hg1 => by
              have hSt1 : SeatAt w1 w.heap.size l l.length := SeatAt.grown (World.rowIs.alloc hSt _) hg1 (by intro e; injection e; omega)
              exact ⟨dm_c0 hN1, seat_p hSt1 hk' p HP.out, seat_e hSt1 hk' z HZ.out, hSt1, (hW.alloc hWs _).grown hg1 (by simp; omega) (by intro k hk; injection hk; omega)⟩
            have WK := hideT' WALK
            clear WALK
            by_cases h6 : q = 6
            · have h6' : (q == 6) = true := by rw [h6]; rfl
              have HDT : Hid (nodeOk l k = (decide (2 ≤ (prt l l.length k).length) && !lastL l (prt l l.length k))) := by
                unfold Hid; rw [HND.out]; unfold dotOk; rw [← HQ.out, decide_eq_true h6]; rfl
              clear h6
              by_cases hp2 : p < 2
              · have HF := hideT' (NO.out (by rw [HDT.out, decide_eq_false (by have := HP.out; omega)]; rfl))
                go_wp2_with (first | (refine load_dm rfl _ rfl b k rfl l hDr hk' ⟨q, t, y⟩ HDM.out ?_) | (refine store_dv rfl _ _ rfl rfl wr.heap.size ⟨q, t, y⟩ rfl rfl default A ?_; intro w1 hN1 hg1 hs1; have hK1 := WK.out w1 hN1 hg1; have k0 := hK1.1; have k1 := hK1.2.1; have k2 := hK1.2.2.1))
                go_ret
                exact ⟨by rw [HF.out]; rfl, hK1.2.2.2.2⟩
              · cases z with
                | true =>
                  have HF := hideT' (NO.out (by rw [HDT.out, ← HZ.out]; simp))
                  go_wp2_with (first | (refine load_dm rfl _ rfl b k rfl l hDr hk' ⟨q, t, y⟩ HDM.out ?_) | (refine store_dv rfl _ _ rfl rfl wr.heap.size ⟨q, t, y⟩ rfl rfl default A ?_; intro w1 hN1 hg1 hs1; have hK1 := WK.out w1 hN1 hg1; have k0 := hK1.1; have k1 := hK1.2.1; have k2 := hK1.2.2.1))
                  go_ret
                  exact ⟨by rw [HF.out]; rfl, hK1.2.2.2.2⟩
                | false =>
                  have HK2 := hideT' (GO.out (by rw [HDT.out, ← HZ.out, decide_eq_true (by have := HP.out; omega)]; rfl))
                  go_wp2_with (first | (refine load_dm rfl _ rfl b k rfl l hDr hk' ⟨q, t, y⟩ HDM.out ?_) | (refine store_dv rfl _ _ rfl rfl wr.heap.size ⟨q, t, y⟩ rfl rfl default A ?_; intro w1 hN1 hg1 hs1; have hK1 := WK.out w1 hN1 hg1; have k0 := hK1.1; have k1 := hK1.2.1; have k2 := hK1.2.2.1))
                  go_roundg (l.length - (k + 1))
                  case measure => omega
                  case rel => exact ⟨k + 1, rfl, by omega, by go_num, HK2, hK1.2.2.2.1, hK1.2.2.2.2⟩
            · have h6' : (q == 6) = false := beq_eq_false_iff_ne.2 h6
              have HK2 := hideT' (GO.out (by rw [HND.out]; unfold dotOk; rw [← HQ.out, decide_eq_false h6]; rfl))
              clear h6
              go_wp2_with (first | (refine load_dm rfl _ rfl b k rfl l hDr hk' ⟨q, t, y⟩ HDM.out ?_) | (refine store_dv rfl _ _ rfl rfl wr.heap.size ⟨q, t, y⟩ rfl rfl default A ?_; intro w1 hN1 hg1 hs1; have hK1 := WK.out w1 hN1 hg1; have k0 := hK1.1; have k1 := hK1.2.1; have k2 := hK1.2.2.1))
              go_roundg (l.length - (k + 1))
              case measure => omega
              case rel => exact ⟨k + 1, rfl, by omega, by go_num, HK2, hK1.2.2.2.1, hK1.2.2.2.2⟩
          · have HG := hideT' (node_all hn3 (fun j hj => HN.out j (by omega)))
            go_wp2
            go_ret
            exact ⟨by rw [HG.out]; rfl, hW⟩

set_option maxHeartbeats 4000000 in
set_option maxRecDepth 100000 in
theorem implGoodData_any (b : Nat) (l : List Dm) (w : World) (hs : ∀ i, i < l.length → (dt l i).size ≤ maxLen) (hD : DatAt w b l) (hT : Tab w.heap.size w) :
    Calls Tryz.prog 10 #[slV b l] w fun e w' => e = .returned (.bool (goodAll l)) ∧ Below w.heap.size w w' := by
  have hz := zero_dm.1
  have HD := hideT' hD
  have HS := hideT' hs
  have HT := hideT' hT
  have hb := RowAt.lt hD
  clear hD hs hT
  by_cases hn : (300 : Int) < (l.length : Int)
  · have HN : Hid (goodAll l = false) := by unfold Hid goodAll; rw [decide_eq_false (by omega)]; rfl
    go_enter Tryz.func10, Tryz.ntmps10
    go_wp2
    go_ret
    exact ⟨by rw [HN.out]; rfl, Below.refl _ _⟩
  · have hn3 : l.length ≤ 300 := by omega
    go_enter Tryz.func10, Tryz.ntmps10
    go_wp2_with fail
    go_loopg [10] l.length (fun g i wr => ∃ k : Nat, g = l.length - k ∧ k ≤ l.length ∧ i = .int .i64 (k : Int) ∧ Hid (∀ j, j < k → upOk l j = true ∧ txtOk (dk l j) (dt l j).data.toList = true) ∧ Hid (Up l k) ∧ Below w.heap.size w wr)
    case atStart => exact ⟨0, rfl, by omega, rfl, fun j hj => by omega, fun j hj => by omega, Below.refl _ _⟩
    case round =>
      obtain ⟨k, hg, hk, rfl, HK, HU, hW⟩ := hrel
      have hWs := hW.size
      by_cases hlt : (k : Int) < (l.length : Int)
      · have hk' : k < l.length := by omega
        have hDr : DatAt wr b l := RowAt.below HD.out hW hb
        have A : DmAt (wr.alloc (.cells (dmC default) 38)) wr.heap.size default := RowAt.new wr _ _
        obtain ⟨q, t, y, hd, hq, ht, hy⟩ := dm_parts l k
        have HDM := hideT' hd
        have HQ := hideT' hq
        have HTX := hideT' ht
        have HY := hideT' hy
        have hts : t.size ≤ maxLen := by rw [ht]; exact HS.out k hk'
        clear hd hq ht hy
        go_wp2_with (first | (refine load_dm rfl _ rfl b k rfl l hDr hk' ⟨q, t, y⟩ HDM.out ?_) | (refine store_dv rfl _ _ rfl rfl wr.heap.size ⟨q, t, y⟩ rfl rfl default A ?_; intro w1 hN1 hg1 hs1; have c0 : w1.cell? ⟨wr.heap.size, 0, none⟩ = some (.int .i64 q) := dm_c0 hN1; have c1 : w1.cell? ⟨wr.heap.size, 1, none⟩ = some (.string t) := dm_c1 hN1; have c2 : w1.cell? ⟨wr.heap.size, 2, none⟩ = some (.int .i64 y) := dm_c2 hN1))
        have hW1 : Below w.heap.size w w1 := (hW.alloc hWs _).grown hg1 (by simp; omega) (by intro k hk; cases hk; omega)
        have hD1 : DatAt w1 b l := RowAt.below HD.out hW1 hb
        have hs1' : w1.heap.size = wr.heap.size + 1 := by rw [hs1]; simp
        have HT1 : Hid (Tab w1.heap.size w1) := (HT.out.on hW1).up hW1.size
        clear A hg1 hs1 hDr hW
        have NO : Hid (nodeOk l k = false → goodAll l = false) := fun h => node_bad hk' h
        refine (goodUp_any b l k _ _ rfl hk' hn3 hD1 HU.out).mono ?_
        rintro e w' ⟨rfl, rfl⟩
        cases hu : upOk l k with
        | false =>
          have HF := hideT' (NO.out (node_upBad hu))
          clear hu
          go_wp2
          go_ret
          exact ⟨by rw [HF.out]; rfl, hW1⟩
        | true =>
          have HOK := hideT' hu
          have HU2 : Hid (Up l (k + 1)) := HU.out.succ hu
          clear hu
          go_wp2_with fail
          refine (goodText_any ⟨q, t, y⟩ _ hts HT1.out).mono ?_
          rintro e w2 ⟨rfl, hW2⟩
          have hWw2 : Below w.heap.size w w2 := hW1.trans (hW2.mono hW1.size)
          clear hN1 hD1 HT1 c0 c1 c2 hW2
          cases htx : txtOk q t.data.toList with
          | false =>
            have HF := hideT' (NO.out (node_txtBad (by rw [← HQ.out, ← HTX.out]; exact htx)))
            clear htx
            go_wp2
            go_ret
            exact ⟨by rw [HF.out]; rfl, hWw2⟩
          | true =>
            have HTO : Hid (txtOk (dk l k) (dt l k).data.toList = true) := by unfold Hid; rw [← HQ.out, ← HTX.out]; exact htx
            have HK2 : Hid (∀ j, j < k + 1 → upOk l j = true ∧ txtOk (dk l j) (dt l j).data.toList = true) := fun j hj => by
              by_cases e : j = k
              · subst e; exact ⟨HOK.out, HTO.out⟩
              · exact HK.out j (by omega)
            clear htx
            go_wp2
            go_roundg (l.length - (k + 1))
            case measure => omega
            case rel => exact ⟨k + 1, rfl, by omega, by go_num, HK2, HU2, hWw2⟩
      · have HAll : Hid (∀ j, j < l.length → upOk l j = true ∧ txtOk (dk l j) (dt l j).data.toList = true) := fun j hj => HK.out j (by omega)
        have hDr : DatAt wr b l := RowAt.below HD.out hW hb
        go_wp2_with fail
        refine (goodLists_any b l _ hn3 HAll.out hDr).mono ?_
        rintro e w2 ⟨rfl, hW2⟩
        obtain ⟨o, ho⟩ : ∃ o, o = goodAll l := ⟨_, rfl⟩
        rw [← ho]
        have HO := hideT' ho
        clear ho
        go_wp2
        go_ret
        exact ⟨by rw [← HO.out]; rfl, hW.trans (hW2.mono hWs)⟩
end Go.Proofs.YtjgpjafndaikcaaGreatDoor

/-
  Whether data are the same.
-/
namespace Go.Proofs.YtjgpjafndaikcaaGreatDoor
open Go.RowKit
set_option linter.unusedVariables false

def dmEq (d e : Dm) : Bool := ((d.k == e.k) && (d.t.toList == e.t.toList)) && (d.u == e.u)
def sameD (l m : List Dm) : Bool := decide (l.length = m.length) && (List.range l.length).all (fun i => dmEq (l.getD i default) (m.getD i default))
theorem sameD_len {l m : List Dm} (h : l.length ≠ m.length) : sameD l m = false := by unfold sameD; rw [decide_eq_false h]; rfl
theorem sameD_no {l m : List Dm} {k : Nat} (hk : k < l.length) (h : dmEq (l.getD k default) (m.getD k default) = false) : sameD l m = false := by
  unfold sameD
  have : (List.range l.length).all (fun i => dmEq (l.getD i default) (m.getD i default)) = false := by
    rw [List.all_eq_false]
    exact ⟨k, List.mem_range.2 hk, by rw [h]; decide⟩
  rw [this, Bool.and_false]
theorem sameD_yes {l m : List Dm} (hlm : l.length = m.length) (h : ∀ k, k < l.length → dmEq (l.getD k default) (m.getD k default) = true) : sameD l m = true := by
  unfold sameD
  rw [decide_eq_true hlm, Bool.true_and, List.all_eq_true]
  intro k hk
  exact h k (List.mem_range.1 hk)

set_option maxRecDepth 100000 in
theorem neq_dm (d e : Dm) (w : World) : (binOp .neq 38 (.agg (dmC d)) (.agg (dmC e))).run Tryz.prog w = .ok (.bool (!dmEq d e)) w := by
  obtain ⟨k, t, u⟩ := d
  obtain ⟨k', t', u'⟩ := e
  show (binOp .neq 38 (.agg #[.int .i64 k, .string t, .int .i64 u]) (.agg #[.int .i64 k', .string t', .int .i64 u'])).run Tryz.prog w = .ok (.bool (!(((k == k') && (t.toList == t'.toList)) && (u == u')))) w
  go_simp
  by_cases h1 : k = k' <;> by_cases h2 : t.toList = t'.toList <;> by_cases h3 : u = u' <;> simp [h1, h2, h3]
set_option maxRecDepth 100000 in
theorem run_neq {o : Oper} {a : Act} {w : World} (x y : Operand) (ho : o.op = .binOp .neq 38 x y 38) (d e : Dm) (hx : a.eval x = .agg (dmC d)) (hy : a.eval y = .agg (dmC e)) :
    (execOp a.eval o).run Tryz.prog w = .ok (.value (.bool (!dmEq d e))) w := by
  unfold execOp
  have hg := fun w => run_eqGuard_agg (P := Tryz.prog) w .neq 38 x y (dmC d) (dmC e) (by kernel_rfl)
  simp only [ho, hx, hy, Sem.run_bind, hg, neq_dm, Result.andThen_ok]
  rfl

set_option maxHeartbeats 1000000 in
set_option maxRecDepth 100000 in
theorem equal_any (b c : Nat) (l m : List Dm) (w : World) (hl : l.length ≤ maxLen) (h1 : DatAt w b l) (h2 : DatAt w c m) :
    Calls Tryz.prog 33 #[slV b l, slV c m] w fun e w' => e = .returned (.bool (sameD l m)) ∧ Below w.heap.size w w' := by
  unfold maxLen at hl
  have H1 := hideT' h1
  have H2 := hideT' h2
  have hb := RowAt.lt h1
  have hc := RowAt.lt h2
  clear h1 h2
  by_cases hlm : l.length = m.length
  · have hle : ((l.length : Int) == (m.length : Int)) = true := by rw [hlm]; exact beq_self_eq_true _
    have hle' : ((l.length : Int) != (m.length : Int)) = false := by rw [hlm]; simp
    have HLM := hideT' hlm
    go_enter Tryz.func33, Tryz.ntmps33
    clear hlm
    go_wp2_with fail
    have hlm := HLM.out
    go_loopg [13] l.length (fun g i wr => ∃ k : Nat, g = l.length - k ∧ k ≤ l.length ∧ i = .int .i64 (k : Int) ∧ Hid (∀ j, j < k → dmEq (l.getD j default) (m.getD j default) = true) ∧ Below w.heap.size w wr)
    case atStart => exact ⟨0, rfl, by omega, rfl, fun j hj => by omega, Below.refl _ _⟩
    case round =>
      obtain ⟨k, hg, hk, rfl, HK, hW⟩ := hrel
      by_cases hlt : (k : Int) < (l.length : Int)
      · have hk' : k < l.length := by omega
        have hkm : k < m.length := by omega
        obtain ⟨d, hd⟩ : ∃ d, d = l.getD k default := ⟨_, rfl⟩
        obtain ⟨d', hd'⟩ : ∃ d', d' = m.getD k default := ⟨_, rfl⟩
        have HD1 := hideT' hd.symm
        have HD2 := hideT' hd'.symm
        have hS : DatAt wr.drew b l ∧ DatAt wr.drew c m := ⟨RowAt.below H1.out (Below.drew hW) hb, RowAt.below H2.out (Below.drew hW) hc⟩
        have hkm' : (k : Int) < (m.length : Int) := by omega
        clear hd hd'
        go_wp2_with fail
        refine held_begin (fun w' => DatAt w' b l ∧ DatAt w' c m) (by kernel_rfl) ?_
        refine held_val 0 (some 16) rfl rfl (by kernel_rfl) (by kernel_rfl) (by kernel_rfl) noPanic_put rfl (slV b l) (fun _ => rfl) hS ?_
        simp only [Act.put, List.setIfInBounds_toArray, List.set_cons_zero, List.set_cons_succ]
        refine held_val 1 (some 17) rfl rfl (by kernel_rfl) (by kernel_rfl) (by kernel_rfl) noPanic_put rfl (.int .i64 (k : Int)) (fun _ => rfl) hS ?_
        simp only [Act.put, List.setIfInBounds_toArray, List.set_cons_zero, List.set_cons_succ]
        refine held_val 2 (some 18) rfl rfl (by kernel_rfl) (by kernel_rfl) (by kernel_rfl) noPanic_put rfl (.pointer (some ⟨b, k * 3, none⟩)) (fun _ => by go_simp) hS ?_
        simp only [Act.put, List.setIfInBounds_toArray, List.set_cons_zero, List.set_cons_succ]
        refine held_valS 3 (some 19) rfl rfl (by kernel_rfl) (by kernel_rfl) (by kernel_rfl) noPanic_put rfl (.agg (dmC d)) (fun _ hw' => run_dm _ rfl b k rfl l hw'.1 hk' d HD1.out) hS ?_
        simp only [Act.put, List.setIfInBounds_toArray, List.set_cons_zero, List.set_cons_succ]
        refine held_val 4 (some 20) rfl rfl (by kernel_rfl) (by kernel_rfl) (by kernel_rfl) noPanic_put rfl (slV c m) (fun _ => rfl) hS ?_
        simp only [Act.put, List.setIfInBounds_toArray, List.set_cons_zero, List.set_cons_succ]
        refine held_val 5 (some 21) rfl rfl (by kernel_rfl) (by kernel_rfl) (by kernel_rfl) noPanic_put rfl (.int .i64 (k : Int)) (fun _ => rfl) hS ?_
        simp only [Act.put, List.setIfInBounds_toArray, List.set_cons_zero, List.set_cons_succ]
        refine held_val 6 (some 22) rfl rfl (by kernel_rfl) (by kernel_rfl) (by kernel_rfl) noPanic_put rfl (.pointer (some ⟨c, k * 3, none⟩)) (fun _ => by go_simp) hS ?_
        simp only [Act.put, List.setIfInBounds_toArray, List.set_cons_zero, List.set_cons_succ]
        refine held_valS 7 (some 23) rfl rfl (by kernel_rfl) (by kernel_rfl) (by kernel_rfl) noPanic_put rfl (.agg (dmC d')) (fun _ hw' => run_dm _ rfl c k rfl m hw'.2 hkm d' HD2.out) hS ?_
        simp only [Act.put, List.setIfInBounds_toArray, List.set_cons_zero, List.set_cons_succ]
        refine held_val 8 (some 24) rfl rfl (by kernel_rfl) (by kernel_rfl) (by kernel_rfl) noPanic_put rfl (.bool (!dmEq d d')) (fun _ => run_neq _ _ rfl d d' rfl rfl) hS ?_
        simp only [Act.put, List.setIfInBounds_toArray, List.set_cons_zero, List.set_cons_succ]
        refine wpAnyH_done (by kernel_rfl) ?_ _
        refine NoPanic.normal ?_
        cases he : dmEq d d' with
        | true =>
          have HK2 : Hid (∀ j, j < k + 1 → dmEq (l.getD j default) (m.getD j default) = true) := fun j hj => by
            by_cases e : j = k
            · subst e; rw [HD1.out, HD2.out]; exact he
            · exact HK.out j (by omega)
          clear he
          go_wp2
          go_roundg (l.length - (k + 1))
          case measure => omega
          case rel => exact ⟨k + 1, rfl, by omega, by go_num, HK2, Below.drew hW⟩
        | false =>
          have HN : Hid (sameD l m = false) := sameD_no hk' (by rw [HD1.out, HD2.out]; exact he)
          clear he
          go_wp2
          go_ret
          exact ⟨by rw [HN.out]; rfl, Below.drew hW⟩
      · have HY : Hid (sameD l m = true) := sameD_yes hlm (fun j hj => HK.out j (by omega))
        go_wp2
        go_ret
        exact ⟨by rw [HY.out]; rfl, hW⟩
  · have hle : ((l.length : Int) == (m.length : Int)) = false := beq_eq_false_iff_ne.2 (by omega)
    have HN := hideT' (sameD_len hlm)
    clear hlm
    go_enter Tryz.func33, Tryz.ntmps33
    go_wp2
    go_ret
    exact ⟨by rw [HN.out]; rfl, Below.refl _ _⟩

/-- What SameData should answer. -/
def sameV (l m : List Dm) : Value := .tuple #[.bool ((goodAll l && goodAll m) && sameD l m), .bool (goodAll l && goodAll m)]

set_option maxHeartbeats 2000000 in
set_option maxRecDepth 100000 in
theorem implSameData_any (b c : Nat) (l m : List Dm) (w : World) (hl : l.length ≤ maxLen) (hsl : ∀ i, i < l.length → (dt l i).size ≤ maxLen) (hsm : ∀ i, i < m.length → (dt m i).size ≤ maxLen) (h1 : DatAt w b l) (h2 : DatAt w c m) (hT : Tab w.heap.size w) :
    Calls Tryz.prog 15 #[slV b l, slV c m] w fun e w' => e = .returned (sameV l m) ∧ Below w.heap.size w w' := by
  have hb := RowAt.lt h1
  have hc := RowAt.lt h2
  have HT := hideT' hT
  have HSL := hideT' hsl
  have HSM := hideT' hsm
  clear hT hsl hsm
  go_enter Tryz.func15, Tryz.ntmps15
  go_wp2_with fail
  refine (implGoodData_any b l w HSL.out h1 HT.out).mono ?_
  rintro e w1 ⟨rfl, hW1⟩
  have h1' : DatAt w1 b l := RowAt.below h1 hW1 hb
  have h2' : DatAt w1 c m := RowAt.below h2 hW1 hc
  have HT1 : Hid (Tab w1.heap.size w1) := (HT.out.on hW1).up hW1.size
  have hb1 := RowAt.lt h1'
  have hc1 := RowAt.lt h2'
  cases g1 : goodAll l with
  | false =>
    have HN : Hid (sameV l m = .tuple #[.bool false, .bool false]) := by unfold Hid sameV; rw [g1]; rfl
    clear g1
    go_wp2
    go_ret2
    exact ⟨by rw [HN.out]; rfl, hW1⟩
  | true =>
    go_wp2_with fail
    refine (implGoodData_any c m w1 HSM.out h2' HT1.out).mono ?_
    rintro e w2 ⟨rfl, hW2⟩
    have hB2 := hW1.trans (hW2.mono hW1.size)
    cases g2 : goodAll m with
    | false =>
      have HN : Hid (sameV l m = .tuple #[.bool false, .bool false]) := by unfold Hid sameV; rw [g1, g2]; rfl
      clear g1 g2
      go_wp2
      go_ret2
      exact ⟨by rw [HN.out]; rfl, hB2⟩
    | true =>
      have HN : Hid (sameV l m = .tuple #[.bool (sameD l m), .bool true]) := by unfold Hid sameV; rw [g1, g2]; rfl
      clear g1 g2
      go_wp2_with fail
      refine (equal_any b c l m w2 hl (RowAt.below h1' hW2 hb1) (RowAt.below h2' hW2 hc1)).mono ?_
      rintro e w3 ⟨rfl, hW3⟩
      obtain ⟨o, ho⟩ : ∃ o, o = sameD l m := ⟨_, rfl⟩
      rw [← ho] at HN ⊢
      clear ho
      go_wp2
      go_ret2
      exact ⟨by rw [HN.out]; rfl, hB2.trans (hW3.mono hB2.size)⟩

set_option maxHeartbeats 2000000 in
set_option maxRecDepth 100000 in
theorem specSameData_any (b c : Nat) (l m : List Dm) (w0 : World) (hl : l.length ≤ maxLen) (hsl : ∀ i, i < l.length → (dt l i).size ≤ maxLen) (hsm : ∀ i, i < m.length → (dt m i).size ≤ maxLen) (h1 : DatAt w0 b l) (h2 : DatAt w0 c m) :
    Calls Tryz.prog 14 #[slV b l, slV c m] w0 fun e w' => e = .returned (sameV l m) ∧ Below w0.heap.size w0 w' := by
  unfold maxLen at hl
  have hb := RowAt.lt h1
  have hc := RowAt.lt h2
  have HSL := hideT' hsl
  have HSM := hideT' hsm
  clear hsl hsm
  go_enter Tryz.func14, Tryz.ntmps14
  go_wp2_with fail
  refine (specGoodData_any b l w0 HSL.out h1).mono ?_
  rintro e w1 ⟨rfl, hW1⟩
  have h1' : DatAt w1 b l := RowAt.below h1 hW1 hb
  have h2' : DatAt w1 c m := RowAt.below h2 hW1 hc
  have hb1 := RowAt.lt h1'
  have hc1 := RowAt.lt h2'
  cases g1 : goodAll l with
  | false =>
    have HN : Hid (sameV l m = .tuple #[.bool false, .bool false]) := by unfold Hid sameV; rw [g1]; rfl
    clear g1
    go_wp2
    go_ret2
    exact ⟨by rw [HN.out]; rfl, hW1⟩
  | true =>
    go_wp2_with fail
    refine (specGoodData_any c m w1 HSM.out h2').mono ?_
    rintro e w ⟨rfl, hW2⟩
    have hB2 := hW1.trans (hW2.mono hW1.size)
    cases g2 : goodAll m with
    | false =>
      have HN : Hid (sameV l m = .tuple #[.bool false, .bool false]) := by unfold Hid sameV; rw [g1, g2]; rfl
      clear g1 g2
      go_wp2
      go_ret2
      exact ⟨by rw [HN.out]; rfl, hB2⟩
    | true =>
      have HN0 : Hid (sameV l m = .tuple #[.bool (sameD l m), .bool true]) := by unfold Hid sameV; rw [g1, g2]; rfl
      have H1 : Hid (DatAt w b l) := RowAt.below h1' hW2 hb1
      have H2 : Hid (DatAt w c m) := RowAt.below h2' hW2 hc1
      clear g1 g2 h1 h2 h1' h2' hb hc
      have hb := RowAt.lt H1.out
      have hc := RowAt.lt H2.out
      by_cases hlm : l.length = m.length
      · have hle : ((l.length : Int) == (m.length : Int)) = true := by rw [hlm]; exact beq_self_eq_true _
        have HLM := hideT' hlm
        clear hlm
        go_wp2_with fail
        have hlm := HLM.out
        go_loopg [22] l.length (fun g i wr => ∃ k : Nat, g = l.length - k ∧ k ≤ l.length ∧ i = .int .i64 (k : Int) ∧ Hid (∀ j, j < k → dmEq (l.getD j default) (m.getD j default) = true) ∧ Below w.heap.size w wr)
        case atStart => exact ⟨0, rfl, by omega, rfl, fun j hj => by omega, Below.refl _ _⟩
        case round =>
          obtain ⟨k, hg, hk, rfl, HK, hW⟩ := hrel
          by_cases hlt : (k : Int) < (l.length : Int)
          · have hk' : k < l.length := by omega
            have hkm : k < m.length := by omega
            obtain ⟨d, hd⟩ : ∃ d, d = l.getD k default := ⟨_, rfl⟩
            obtain ⟨d', hd'⟩ : ∃ d', d' = m.getD k default := ⟨_, rfl⟩
            have HD1 := hideT' hd.symm
            have HD2 := hideT' hd'.symm
            have hS : DatAt wr.drew b l ∧ DatAt wr.drew c m := ⟨RowAt.below H1.out (Below.drew hW) hb, RowAt.below H2.out (Below.drew hW) hc⟩
            have hkm' : (k : Int) < (m.length : Int) := by omega
            clear hd hd'
            go_wp2_with fail
            refine held_begin (fun w' => DatAt w' b l ∧ DatAt w' c m) (by kernel_rfl) ?_
            refine held_val 0 (some 25) rfl rfl (by kernel_rfl) (by kernel_rfl) (by kernel_rfl) noPanic_put rfl (slV b l) (fun _ => rfl) hS ?_
            simp only [Act.put, List.setIfInBounds_toArray, List.set_cons_zero, List.set_cons_succ]
            refine held_val 1 (some 26) rfl rfl (by kernel_rfl) (by kernel_rfl) (by kernel_rfl) noPanic_put rfl (.int .i64 (k : Int)) (fun _ => rfl) hS ?_
            simp only [Act.put, List.setIfInBounds_toArray, List.set_cons_zero, List.set_cons_succ]
            refine held_val 2 (some 27) rfl rfl (by kernel_rfl) (by kernel_rfl) (by kernel_rfl) noPanic_put rfl (.pointer (some ⟨b, k * 3, none⟩)) (fun _ => by go_simp) hS ?_
            simp only [Act.put, List.setIfInBounds_toArray, List.set_cons_zero, List.set_cons_succ]
            refine held_valS 3 (some 28) rfl rfl (by kernel_rfl) (by kernel_rfl) (by kernel_rfl) noPanic_put rfl (.agg (dmC d)) (fun _ hw' => run_dm _ rfl b k rfl l hw'.1 hk' d HD1.out) hS ?_
            simp only [Act.put, List.setIfInBounds_toArray, List.set_cons_zero, List.set_cons_succ]
            refine held_val 4 (some 29) rfl rfl (by kernel_rfl) (by kernel_rfl) (by kernel_rfl) noPanic_put rfl (slV c m) (fun _ => rfl) hS ?_
            simp only [Act.put, List.setIfInBounds_toArray, List.set_cons_zero, List.set_cons_succ]
            refine held_val 5 (some 30) rfl rfl (by kernel_rfl) (by kernel_rfl) (by kernel_rfl) noPanic_put rfl (.int .i64 (k : Int)) (fun _ => rfl) hS ?_
            simp only [Act.put, List.setIfInBounds_toArray, List.set_cons_zero, List.set_cons_succ]
            refine held_val 6 (some 31) rfl rfl (by kernel_rfl) (by kernel_rfl) (by kernel_rfl) noPanic_put rfl (.pointer (some ⟨c, k * 3, none⟩)) (fun _ => by go_simp) hS ?_
            simp only [Act.put, List.setIfInBounds_toArray, List.set_cons_zero, List.set_cons_succ]
            refine held_valS 7 (some 32) rfl rfl (by kernel_rfl) (by kernel_rfl) (by kernel_rfl) noPanic_put rfl (.agg (dmC d')) (fun _ hw' => run_dm _ rfl c k rfl m hw'.2 hkm d' HD2.out) hS ?_
            simp only [Act.put, List.setIfInBounds_toArray, List.set_cons_zero, List.set_cons_succ]
            refine held_val 8 (some 33) rfl rfl (by kernel_rfl) (by kernel_rfl) (by kernel_rfl) noPanic_put rfl (.bool (!dmEq d d')) (fun _ => run_neq _ _ rfl d d' rfl rfl) hS ?_
            simp only [Act.put, List.setIfInBounds_toArray, List.set_cons_zero, List.set_cons_succ]
            refine wpAnyH_done (by kernel_rfl) ?_ _
            refine NoPanic.normal ?_
            cases he : dmEq d d' with
            | true =>
              have HK2 : Hid (∀ j, j < k + 1 → dmEq (l.getD j default) (m.getD j default) = true) := fun j hj => by
                by_cases e : j = k
                · subst e; rw [HD1.out, HD2.out]; exact he
                · exact HK.out j (by omega)
              clear he
              go_wp2
              go_roundg (l.length - (k + 1))
              case measure => omega
              case rel => exact ⟨k + 1, rfl, by omega, by go_num, HK2, Below.drew hW⟩
            | false =>
              have HN : Hid (sameD l m = false) := sameD_no hk' (by rw [HD1.out, HD2.out]; exact he)
              clear he
              go_wp2
              go_ret2
              exact ⟨by rw [HN0.out, HN.out]; rfl, hB2.trans ((Below.drew hW).mono hB2.size)⟩
          · have HY : Hid (sameD l m = true) := sameD_yes hlm (fun j hj => HK.out j (by omega))
            go_wp2
            go_ret2
            exact ⟨by rw [HN0.out, HY.out]; rfl, hB2.trans (hW.mono hB2.size)⟩
      · have hle : ((l.length : Int) == (m.length : Int)) = false := beq_eq_false_iff_ne.2 (by omega)
        have HN := hideT' (sameD_len hlm)
        clear hlm
        go_wp2
        go_ret2
        exact ⟨by rw [HN0.out, HN.out]; rfl, hB2⟩
end Go.Proofs.YtjgpjafndaikcaaGreatDoor

/-
  Data that came in as an argument: what its reading says of the cells.
-/
namespace Go.Proofs.YtjgpjafndaikcaaGreatDoor
open Go.ChangeShapes Go.WideShapes Go.ChangeAt Go.RowKit
set_option linter.unusedVariables false

theorem laidOut : laidOutB Tryz.prog = true := by kernel_rfl
theorem cells_ldm : Tryz.prog.cellsOf 37 = 3 := by kernel_rfl
theorem cells_int : Tryz.prog.cellsOf 3 = 1 := by kernel_rfl
theorem cells_str : Tryz.prog.cellsOf 9 = 1 := by kernel_rfl

set_option maxRecDepth 100000 in
theorem open_node {H : Type} {enc : TypeId × Value → H} {W : World} {n : Nat} {cs : List Value} {x : DataW H × List MemPlace} (hl : cs.length = 3) (h : DataW.trod enc Tryz.prog W 0 (fun _ => true) true n 37 cs = some x) :
    ∃ d : Dm, cs = dmL d ∧ d.t.size ≤ maxLen := by
  obtain ⟨y0, y1, y2, m, _, _, h0, h1, h2⟩ := Deep.trod_struct3 Tryz.underlying37 h
  obtain ⟨a, b, c, rfl⟩ : ∃ a b c, cs = [a, b, c] := by
    cases cs with
    | nil => cases hl
    | cons a cs => cases cs with
      | nil => cases hl
      | cons b cs => cases cs with
        | nil => cases hl
        | cons c cs => cases cs with
          | nil => exact ⟨a, b, c, rfl⟩
          | cons _ _ => simp at hl
  · have g0 : DataW.trod enc Tryz.prog W 0 (fun _ => true) true m 3 (([a, b, c].drop 0).take (Tryz.prog.cellsOf 3)) = some y0 := h0
    have g1 : DataW.trod enc Tryz.prog W 0 (fun _ => true) true m 9 (([a, b, c].drop 1).take (Tryz.prog.cellsOf 9)) = some y1 := h1
    have g2 : DataW.trod enc Tryz.prog W 0 (fun _ => true) true m 3 (([a, b, c].drop 2).take (Tryz.prog.cellsOf 3)) = some y2 := h2
    rw [cells_int] at g0 g2
    rw [cells_str] at g1
    obtain ⟨k, e0, _, _⟩ := DataW.trod_int Tryz.underlying3 g0
    obtain ⟨t, e1, _, ht⟩ := DataW.trod_string Tryz.underlying9 g1
    obtain ⟨u, e2, _, _⟩ := DataW.trod_int Tryz.underlying3 g2
    simp at e0 e1 e2
    exact ⟨⟨k, t, u⟩, by rw [e0, e1, e2]; rfl, ht⟩

set_option maxRecDepth 100000 in
theorem open_data {H : Type} {enc : TypeId × Value → H} {W : World} {base : Nat} {v : Value} {d : DataW H} {ps : List MemPlace} (hval : Value.okWide Tryz.prog W .any base 22 v) (h : DataW.Trod enc Tryz.prog W 0 (fun _ => true) true 22 v d ps) :
    ∃ l : List Dm, SlIn W v l ∧ (∀ i, i < l.length → (dt l i).size ≤ maxLen) ∧ l.length ≤ maxLen := by
  obtain ⟨a0, len, cap, rfl⟩ := okWide_slice Tryz.underlying22 hval
  obtain ⟨fuel, hf⟩ := h
  rcases Deep.open_slice Tryz.underlying22 hf with ⟨h1, _⟩ | ⟨a, len', cap', m, n, D, Pl, h1, hb, hl, hm, hmm, hx, hel⟩
  · refine ⟨[], .inl ⟨?_, rfl⟩, fun i hi => by simp at hi, by unfold maxLen; simp⟩
    simpa [Value.cells] using h1
  · have hs : Value.slice a0 len cap = .slice (some a) len' cap' := by simpa [Value.cells] using h1
    rw [hs]
    have hlm : len' ≤ m := by rw [hmm]; simp; exact hl
    have each : ∀ i, i < len' → ∃ d : Dm, W.cells? 0 (a.add (i * 3)) 3 = some (dmL d) ∧ d.t.size ≤ maxLen := fun i hi => by
      obtain ⟨cs', g1, g2⟩ := hel i (by omega)
      rw [cells_ldm] at g1
      obtain ⟨_, hlen, _⟩ := World.cells?_some g1
      obtain ⟨d, rfl, ht⟩ := open_node hlen g2
      exact ⟨d, g1, ht⟩
    obtain ⟨f, hfl⟩ := Deep.choose_lt each
    have hlen : ((List.range len').map f).length = len' := by simp
    have hget : ∀ i, i < len' → ((List.range len').map f).getD i default = f i := fun i hi => by simp [List.getD, hi]
    refine ⟨(List.range len').map f, .inr ⟨a, cap', by rw [hlen], fun i j v hi hv => ?_, fun h0 => ?_⟩, fun i hi => ?_, by rw [hlen]; omega⟩
    · rw [hlen] at hi
      rw [hget i hi] at hv
      obtain ⟨_, _, hc⟩ := World.cells?_some (hfl i hi).1
      have hj : j < 3 := by
        have := (List.getElem?_eq_some_iff.1 hv).1
        simpa [dmL] using this
      rw [hc j hj]
      exact hv
    · rw [hlen] at h0
      obtain ⟨_, _, hc⟩ := World.cells?_some (hfl 0 h0).1
      have h2 := hc 0 (by decide)
      have h3 : W.cell? ((a.add (0 * 3)).add 0) = some (.int .i64 (f 0).k) := by rw [h2]; rfl
      exact block_lt_of_cell (a := a) (by simpa [Addr.add] using h3)
    · rw [hlen] at hi
      unfold dt
      rw [hget i hi]
      exact (hfl i hi).2
end Go.Proofs.YtjgpjafndaikcaaGreatDoor
