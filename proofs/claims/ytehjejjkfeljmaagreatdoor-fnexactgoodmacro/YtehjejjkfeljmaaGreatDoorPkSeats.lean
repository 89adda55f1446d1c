/-
  The texts Seats, ImplGoodData, RdMem, AppStr, AppParts, one behind the other.
-/
import Derived.Test.YtehjejjkfeljmaaGreatDoorPkSymbol
import Derived.Test.YtehjejjkfeljmaaGreatDoorPkFraction
import Derived.Test.YtehjejjkfeljmaaGreatDoorPkHeld
import Derived.Deep.OwnRows
import Derived.Test.YtehjejjkfeljmaaGreatDoorPkSpecSub
import Derived.Deep.QuietTactic
import Derived.BigQuiet
import Derived.Lib.AppendStr

/-
  The seats that impl.GoodData keeps beside the nodes.
-/
namespace Go.Proofs.YtehjejjkfeljmaaGreatDoor
open Go.RowKit
set_option linter.unusedVariables false

section
variable {P : Program}
theorem run_storeVar_cell (w : World) (b o : Nat) (ty : TypeId) (v : Value) (hc : (w.cell? ⟨b, o, none⟩).isSome = true) (hf : w.frozen? ⟨b, o, none⟩ = false) (hi : (P.info? ty).map (·.size) = some 1) (h1 : v.oneCell' = true) :
    (storeVar ty ⟨b, o, none⟩ v).run P w = .ok () (w.setCell ⟨b, o, none⟩ v) := by
  have := run_storeCells_cells (P := P) b o [v] 0 w (fun j hj => by simp at hj; subst hj; simpa using hc) (fun j hj => by simp at hj; subst hj; simpa using hf) (fun x hx => by simp at hx; subst hx; exact h1)
  have hcl : v.cells = #[v] := by cases v <;> first | rfl | cases h1
  cases hq : P.info? ty with
  | none => simp [hq] at hi
  | some i =>
    have hs : i.size = 1 := by simpa [hq] using hi
    simp only [Nat.add_zero] at this
    simp [storeVar, sizeOf, typeInfo, hq, hcl, hs, this, World.setCells]
end
theorem grown_set (w : World) (b o : Nat) (v : Value) : w.grownBy (w.setCell ⟨b, o, none⟩ v) (some b) :=
  ⟨rfl, rfl, rfl, by simp, fun k _ hne => Deep.blk_setCell_other _ _ _ _ (by intro e; exact hne (by rw [e]))⟩
/-- One cell of a row is written. -/
theorem store_cell {ops : Array Oper} {rest : List Oper} {op : Oper} {a : Act} {w : World} {Q : Exit → Act → World → Prop} (hgd : op.guard = none) (ty : TypeId) (x y : Operand) (ho : op.op = .store ty x y) (hd : op.dst = none)
    (b o : Nat) (v : Value) (hx : a.eval x = .pointer (some ⟨b, o, none⟩)) (hy : a.eval y = v) (hi : (Tryz.prog.info? ty).map (·.size) = some 1) (h1 : v.oneCell' = true) (t : TypeId) (n : Nat) (f : Nat → Value) (hR : w.rowIs b t n f) (hon : o < n)
    (h : ∀ w', w'.rowIs b t n (fun j => if j = o then v else f j) → w.grownBy w' (some b) → w'.heap.size = w.heap.size → wpList Tryz.prog ops Q rest a w') : wpList Tryz.prog ops Q (op :: rest) a w :=
  wpList_plain hgd fun _ hK => by
    unfold Oper.wp execOp
    simp only [ho, hx, hy, Instr.storeAt, Instr.sureAddr, Sem.run_bind, Sem.run_pure, Result.andThen_ok, run_storeVar_cell w b o ty v (by rw [hR.cell hon]; rfl) (hR.frozen o) hi h1]
    have := h _ (hR.set o v) (grown_set w b o v) (by simp)
    have e : a.put op.dst undef = a := by rw [hd]; rfl
    refine hK _ _ ?_
    rw [e]
    exact this
/-- The same, as the one operation of a drawn region that may come up. -/
theorem held_store_cell {ops : Array Oper} {Q : Exit → Act → World → Prop} {md : Region.Mode} {S : World → Prop} {op : Oper} {fuel : Nat} {listed : Array Bool} {a : Act} {w : World} (i : Nat) (hr : Region.ready md ops listed = [i]) (hi : ops[i]? = some op) (hw : Region.wanted op (yielded ops a.tmps) = true) (ty : TypeId) (x y : Operand) (ho : op.op = .store ty x y) (hd : op.dst = none)
    (b o : Nat) (v : Value) (hx : a.eval x = .pointer (some ⟨b, o, none⟩)) (hy : a.eval y = v) (hin : (Tryz.prog.info? ty).map (·.size) = some 1) (h1 : v.oneCell' = true) (t : TypeId) (n : Nat) (f : Nat → Value) (hR : w.rowIs b t n f) (hon : o < n)
    (h : ∀ w', w'.rowIs b t n (fun j => if j = o then v else f j) → w.grownBy w' (some b) → w'.heap.size = w.heap.size → S w' ∧ wpAnyH Tryz.prog md ops Q S fuel (listed.setIfInBounds i true) a w') : wpAnyH Tryz.prog md ops Q S (fuel + 1) listed a w := by
  refine wpAnyH_ready hr (by simp) (AllReadyH.cons hi (fun K hK => ?_) AllReadyH.nil)
  rw [if_pos hw]
  unfold Oper.wp execOp
  simp only [ho, hx, hy, Instr.storeAt, Instr.sureAddr, Sem.run_bind, Sem.run_pure, Result.andThen_ok, run_storeVar_cell w b o ty v (by rw [hR.cell hon]; rfl) (hR.frozen o) hin h1]
  have := h _ (hR.set o v) (grown_set w b o v) (by simp)
  have e : a.put op.dst undef = a := by rw [hd]; rfl
  refine hK.out _ _ this.1 (fun _ => ?_)
  rw [e]
  exact this.2

/-- What the seats hold when k nodes are looked at. -/
def seatF (l : List Dm) (k i : Nat) : Value :=
  if i % 3 = 0 then .int .i64 ((if i / 3 < k then arnd l (i / 3) else 0 : Nat) : Int) else if i % 3 = 1 then .int .i64 ((prt l k (i / 3)).length : Int) else .bool (lastL l (prt l k (i / 3)))
def SeatAt (w : World) (sb : Nat) (l : List Dm) (k : Nat) : Prop := w.rowIs sb 230 (3 * l.length) (seatF l k)
theorem seatF0 (l : List Dm) (k j : Nat) : seatF l k (j * 3) = .int .i64 ((if j < k then arnd l j else 0 : Nat) : Int) := by
  unfold seatF; rw [if_pos (by omega), show j * 3 / 3 = j by omega]
theorem seatF1 (l : List Dm) (k j : Nat) : seatF l k (j * 3 + 1) = .int .i64 ((prt l k j).length : Int) := by
  unfold seatF; rw [if_neg (by omega), if_pos (by omega), show (j * 3 + 1) / 3 = j by omega]
theorem seatF2 (l : List Dm) (k j : Nat) : seatF l k (j * 3 + 2) = .bool (lastL l (prt l k j)) := by
  unfold seatF; rw [if_neg (by omega), if_neg (by omega), show (j * 3 + 2) / 3 = j by omega]
theorem seat_row {w : World} {sb : Nat} {l : List Dm} {k : Nat} {f : Nat → Value} (h : w.rowIs sb 230 (3 * l.length) f) (h0 : ∀ j, j < l.length → f (j * 3) = seatF l k (j * 3)) (h1 : ∀ j, j < l.length → f (j * 3 + 1) = seatF l k (j * 3 + 1)) (h2 : ∀ j, j < l.length → f (j * 3 + 2) = seatF l k (j * 3 + 2)) : SeatAt w sb l k :=
  h.congr (fun i hi => by
    rcases (by omega : i % 3 = 0 ∨ i % 3 = 1 ∨ i % 3 = 2) with e | e | e
    · have := h0 (i / 3) (by omega); rwa [show i / 3 * 3 = i by omega] at this
    · have := h1 (i / 3) (by omega); rwa [show i / 3 * 3 + 1 = i by omega] at this
    · have := h2 (i / 3) (by omega); rwa [show i / 3 * 3 + 2 = i by omega] at this)
theorem SeatAt.below {w w' : World} {sb B : Nat} {l : List Dm} {k : Nat} (h : SeatAt w sb l k) (hg : Below B w w') (hb : sb < B) : SeatAt w' sb l k := World.rowIs.of_block h (hg.block sb hb)
theorem SeatAt.grown {w w' : World} {sb : Nat} {l : List Dm} {k : Nat} {r : Option Nat} (h : SeatAt w sb l k) (hg : w.grownBy w' r) (hr : some sb ≠ r) : SeatAt w' sb l k := World.rowIs.of_block h (hg.block sb (World.rowIs.lt h) hr)

/-- A node that is in no list. -/
theorem seat_none {w : World} {sb : Nat} {l : List Dm} {k : Nat} (h : SeatAt w sb l k) (hu : du l k < 0) : SeatAt w sb l (k + 1) := by
  have hp : ∀ j, prt l (k + 1) j = prt l k j := fun j => by rw [prt_snoc, if_neg (by omega), List.append_nil]
  refine seat_row h (fun j _ => ?_) (fun j _ => ?_) (fun j _ => ?_)
  · rw [seatF0, seatF0]
    by_cases e : j = k
    · subst e; rw [if_neg (by omega), if_pos (by omega), arnd_none hu]
    · by_cases e2 : j < k
      · rw [if_pos e2, if_pos (by omega)]
      · rw [if_neg e2, if_neg (by omega)]
  · rw [seatF1, seatF1, hp]
  · rw [seatF2, seatF2, hp]
/-- A node that is in the list j. -/
theorem seat_some {w : World} {sb : Nat} {l : List Dm} {k j : Nat} (hU : Up l k) (hj : du l k = (j : Int)) (hjk : j < k) (hl : isL (dk l j) = true)
    (h : w.rowIs sb 230 (3 * l.length) (fun i => if i = j * 3 + 2 then .bool (isL (dk l k)) else (fun i => if i = j * 3 + 1 then .int .i64 (((prt l k j).length : Int) + 1) else (fun i => if i = k * 3 then .int .i64 ((arnd l j : Int) + 1) else seatF l k i) i) i)) : SeatAt w sb l (k + 1) := by
  refine seat_row h (fun m _ => ?_) (fun m _ => ?_) (fun m _ => ?_)
  · show (if m * 3 = j * 3 + 2 then _ else if m * 3 = j * 3 + 1 then _ else if m * 3 = k * 3 then _ else _) = _
    rw [if_neg (by omega), if_neg (by omega), seatF0, seatF0]
    by_cases e : m = k
    · subst e; rw [if_pos rfl, if_pos (by omega), arnd_some hU hj hjk hl]; rfl
    · rw [if_neg (by omega)]
      by_cases e2 : m < k
      · rw [if_pos e2, if_pos (by omega)]
      · rw [if_neg e2, if_neg (by omega)]
  · show (if m * 3 + 1 = j * 3 + 2 then _ else if m * 3 + 1 = j * 3 + 1 then _ else if m * 3 + 1 = k * 3 then _ else _) = _
    rw [if_neg (by omega), seatF1, seatF1, prt_snoc]
    by_cases e : m = j
    · subst e; rw [if_pos rfl, if_pos ⟨hjk, hj⟩]; simp
    · rw [if_neg (by omega), if_neg (by omega), if_neg (by omega), List.append_nil]
  · show (if m * 3 + 2 = j * 3 + 2 then _ else if m * 3 + 2 = j * 3 + 1 then _ else if m * 3 + 2 = k * 3 then _ else _) = _
    rw [seatF2, seatF2, prt_snoc]
    by_cases e : m = j
    · subst e; rw [if_pos rfl, if_pos ⟨hjk, hj⟩, lastL_snoc]
    · rw [if_neg (by omega), if_neg (by omega), if_neg (by omega), if_neg (by omega), List.append_nil]

/-- The seats as make lays them. -/
theorem info_seat : (Tryz.prog.info? 230).map (fun i => (i.zero, i.size, i.bytes)) = some (some (.agg #[.int .i64 0, .int .i64 0, .bool false]), 3, 24) := by kernel_rfl
theorem run_make_seats (n : Nat) (hn : n ≤ 300) (w : World) : (Instr.makeSlice 228 (.int .i64 (n : Int)) (.int .i64 (n : Int))).run Tryz.prog w = .ok (.slice (some ⟨w.heap.size, 0, none⟩) n n) (w.alloc (.cells (madeCells #[.int .i64 0, .int .i64 0, .bool false] (n * 3)) 230)) := by
  obtain ⟨i, hi, hzz⟩ := Option.map_eq_some_iff.1 info_seat
  simp only [Prod.mk.injEq] at hzz
  obtain ⟨hz, hs, hb⟩ := hzz
  have hr := run_make (P := Tryz.prog) w 228 230 i _ Tryz.underlying228 hi hz .i64 .i64 n n (by omega) (Int.le_refl _) (by rw [hb]; omega) (by omega)
  simp only [Int.toNat_natCast, hs] at hr
  exact hr
theorem seats_new (w : World) (l : List Dm) : SeatAt (w.alloc (.cells (madeCells #[.int .i64 0, .int .i64 0, .bool false] (l.length * 3)) 230)) w.heap.size l 0 := by
  refine ⟨_, Deep.blk_alloc_new _ _, by rw [size_madeCells]; omega, fun i hi => ?_⟩
  have hp : prt l 0 (i / 3) = [] := rfl
  simp only [madeCells, Array.getElem?_map]
  have hr : (Array.range (l.length * 3))[i]? = some i := by rw [Array.getElem?_eq_getElem (by rw [Array.size_range]; omega), Array.getElem_range]
  rw [hr, Option.map_some]
  unfold seatF
  rcases (by omega : i % 3 = 0 ∨ i % 3 = 1 ∨ i % 3 = 2) with e | e | e
  · rw [if_pos e]; simp [e]
  · rw [if_neg (by omega), if_pos e, hp]; simp [e]
  · rw [if_neg (by omega), if_neg (by omega), hp]; simp [e, lastL]
end Go.Proofs.YtehjejjkfeljmaaGreatDoor

/-
  What impl.GoodData answers.
-/
namespace Go.Proofs.YtehjejjkfeljmaaGreatDoor
open Go.RowKit
set_option linter.unusedVariables false

theorem one_int : (Tryz.prog.info? 3).map (·.size) = some 1 := by kernel_rfl
theorem one_bool : (Tryz.prog.info? 4).map (·.size) = some 1 := by kernel_rfl
theorem seat_a {w : World} {sb : Nat} {l : List Dm} {k j : Nat} (h : SeatAt w sb l k) (hj : j < l.length) (r : Int) (hr : r = ((if j < k then arnd l j else 0 : Nat) : Int)) : w.cell? ⟨sb, j * 3, none⟩ = some (.int .i64 r) := by
  rw [World.rowIs.cell h (by omega), seatF0, hr]
theorem seat_p {w : World} {sb : Nat} {l : List Dm} {k j : Nat} (h : SeatAt w sb l k) (hj : j < l.length) (r : Int) (hr : r = ((prt l k j).length : Int)) : w.cell? ⟨sb, j * 3 + 1, none⟩ = some (.int .i64 r) := by
  rw [World.rowIs.cell h (by omega), seatF1, hr]
theorem seat_e {w : World} {sb : Nat} {l : List Dm} {k j : Nat} (h : SeatAt w sb l k) (hj : j < l.length) (r : Bool) (hr : r = lastL l (prt l k j)) : w.cell? ⟨sb, j * 3 + 2, none⟩ = some (.bool r) := by
  rw [World.rowIs.cell h (by omega), seatF2, hr]
theorem arnd_le {l : List Dm} {j : Nat} (h : deepOk l j = true) : arnd l j ≤ 25 := by
  unfold deepOk at h
  rw [deep_arnd] at h
  have := of_decide_eq_true h
  omega
theorem deep_of {l : List Dm} {k : Nat} (hl : isL (dk l k) = true) : deepOk l k = decide (arnd l k < 25) := by
  unfold deepOk
  rw [deep_arnd, if_pos hl]
  exact decide_eq_decide.2 (by omega)
theorem deep_ofn {l : List Dm} {k : Nat} (hl : isL (dk l k) = false) (h : arnd l k ≤ 25) : deepOk l k = true := by
  unfold deepOk
  rw [deep_arnd, hl]
  exact decide_eq_true (by simpa using h)

def OkTo (l : List Dm) (k : Nat) : Prop := ∀ j, j < k → upOk l j = true ∧ txtOk (dk l j) (dt l j).data.toList = true ∧ deepOk l j = true
theorem OkTo.succ {l : List Dm} {k : Nat} (h : OkTo l k) (h1 : upOk l k = true) (h2 : txtOk (dk l k) (dt l k).data.toList = true) (h3 : deepOk l k = true) : OkTo l (k + 1) := fun j hj => by
  by_cases e : j = k
  · subst e; exact ⟨h1, h2, h3⟩
  · exact h j (by omega)

set_option maxHeartbeats 4000000 in
set_option maxRecDepth 100000 in
/-- Lists around each other, and dotted ones, where all nodes stand in good places and have good texts. -/
theorem goodLists_any (b : Nat) (l : List Dm) (w : World) (hn3 : l.length ≤ 300) (hA : ∀ j, j < l.length → upOk l j = true ∧ txtOk (dk l j) (dt l j).data.toList = true) (hD : DatAt w b l) :
    Calls Tryz.prog 112 #[slV b l] w fun e w' => e = .returned (.bool (goodAll l)) ∧ Below w.heap.size w w' := by
  have hz := zero_dm.1
  have HD := hideT' hD
  have HA := hideT' hA
  have hb := RowAt.lt hD
  clear hD hA
  · have hmk := run_make_seats l.length hn3
    go_enter Tryz.func112, Tryz.ntmps112
    go_wp2_with fail
    clear hmk
    go_loopg [13] l.length (fun g i wr => ∃ k : Nat, g = l.length - k ∧ k ≤ l.length ∧ i = .int .i64 (k : Int) ∧ Hid (OkTo l k) ∧ Hid (Up l k) ∧ SeatAt wr w.heap.size l k ∧ Below w.heap.size w wr)
    case atStart => exact ⟨0, rfl, by omega, rfl, fun j hj => by omega, fun j hj => by omega, seats_new w l, (Below.refl _ _).alloc (Nat.le_refl _) _⟩
    case round =>
      obtain ⟨k, hg, hk, rfl, HK, HU, hSt, hW⟩ := hrel
      have hWs := hW.size
      by_cases hlt : (k : Int) < (l.length : Int)
      · have hk' : k < l.length := by omega
        have hDr : DatAt wr b l := RowAt.below HD.out hW hb
        have hsl : w.heap.size < wr.heap.size := World.rowIs.lt hSt
        have A : DmAt (wr.alloc (.cells (dmC default) 37)) wr.heap.size default := RowAt.new wr _ _
        obtain ⟨q, t, y, hd, hq, ht, hy⟩ := dm_parts l k
        have HDM := hideT' hd
        have HQ := hideT' hq
        have HTX := hideT' ht
        have HY := hideT' hy
        clear hd hq ht hy
        have NO : Hid (nodeOk l k = false → goodAll l = false) := fun h => node_bad hk' h
        have HOK : Hid (upOk l k = true) := (HA.out k hk').1
        have HTO : Hid (txtOk (dk l k) (dt l k).data.toList = true) := (HA.out k hk').2
        have HU2 : Hid (Up l (k + 1)) := HU.out.succ HOK.out
        have hyr := upOk_up HU.out HOK.out
        rw [← HY.out] at hyr
        have WALK : ∀ (w2 : World), DmAt w2 wr.heap.size ⟨q, t, y⟩ → (wr.alloc (.cells (dmC default) 37)).grownBy w2 (some wr.heap.size) → w2.cell? ⟨wr.heap.size, 0, none⟩ = some (.int .i64 q) ∧ w2.cell? ⟨wr.heap.size, 2, none⟩ = some (.int .i64 y) ∧ SeatAt w2 w.heap.size l k ∧ Below w.heap.size w w2 := by
          intro w2 hN2 hg2
          exact ⟨dm_c0 hN2, dm_c2 hN2, SeatAt.grown (World.rowIs.alloc hSt _) hg2 (by intro e; injection e; omega), (hW.alloc hWs _).grown hg2 (by simp; omega) (by intro k hk; injection hk; omega)⟩
        have WK := hideT' WALK
        clear WALK
        clear hW hSt
        · · by_cases hy0 : 0 ≤ y
            · obtain ⟨j, rfl⟩ : ∃ j : Nat, y = (j : Int) := ⟨y.toNat, by omega⟩
              have hjk : j < k := by omega
              have hjl : isL (dk l j) = true := by
                have := upOk_list HOK.out (by rw [← HY.out]; exact hy0)
                rwa [← HY.out, Int.toNat_natCast] at this
              have HJL := hideT' hjl
              have haj := arnd_le (HK.out j hjk).2.2
              obtain ⟨r, hr⟩ : ∃ r : Int, r = (arnd l j : Int) := ⟨_, rfl⟩
              obtain ⟨p, hp⟩ : ∃ p : Int, p = ((prt l k j).length : Int) := ⟨_, rfl⟩
              have hr0 : 0 ≤ r := by omega
              have hr1 : r ≤ 25 := by omega
              have hp0 : 0 ≤ p := by omega
              have hp1 : p ≤ 300 := by have := prt_len l k j; omega
              have HR := hideT' hr
              have HP := hideT' hp
              clear hjl haj hr hp
              go_wp2_with (first | (refine load_dm rfl _ rfl b k rfl l hDr hk' ⟨q, t, (j : Int)⟩ HDM.out ?_) | (refine store_dv rfl _ _ rfl rfl wr.heap.size ⟨q, t, (j : Int)⟩ rfl rfl default A ?_; intro w2 hN2 hg2 hs2; have hK2 := WK.out w2 hN2 hg2; have d0 := hK2.1; have d2 := hK2.2.1; have hSt2 := hK2.2.2.1; have hWw2 := hK2.2.2.2; have hs2' : w2.heap.size = wr.heap.size + 1 := (by rw [hs2]; simp); have ca := seat_a hSt2 (show j < l.length by omega) r (by rw [if_pos hjk]; exact HR.out); clear hK2 hg2 hs2) | (refine store_cell rfl 3 _ _ rfl rfl w.heap.size (k * 3) (.int .i64 (r + 1)) rfl rfl one_int rfl 230 (3 * l.length) (seatF l k) hSt2 (by omega) ?_; intro w3 hR3 hg3 hs3; have cp : w3.cell? ⟨w.heap.size, j * 3 + 1, none⟩ = some (.int .i64 p) := (by rw [World.rowIs.cell hR3 (by omega), if_neg (by omega), seatF1, HP.out]); have d2' : w3.cell? ⟨wr.heap.size, 2, none⟩ = some (.int .i64 (j : Int)) := dm_c2 (RowAt.grown hN2 hg3 (by intro e; injection e; omega))) | (refine store_cell rfl 3 _ _ rfl rfl w.heap.size (j * 3 + 1) (.int .i64 (p + 1)) rfl rfl one_int rfl 230 (3 * l.length) _ hR3 (by omega) ?_; intro w4 hR4 hg4 hs4))
              have hN4 : DmAt w4 wr.heap.size ⟨q, t, (j : Int)⟩ := RowAt.grown (RowAt.grown hN2 hg3 (by intro e; injection e; omega)) hg4 (by intro e; injection e; omega)
              have hW4 : Below w.heap.size w w4 := (hWw2.grown hg3 (by omega) (by intro k hk; injection hk; omega)).grown hg4 (by omega) (by intro k hk; injection hk; omega)
              have hj3 : (j : Int) < (l.length : Int) := by omega
              clear hSt2 hR3 cp d2' ca d0 d2 hN2 hWw2 hg3 hg4
              refine held_begin (fun w' => w'.cell? ⟨wr.heap.size, 2, none⟩ = some (.int .i64 (j : Int)) ∧ w'.cell? ⟨wr.heap.size, 0, none⟩ = some (.int .i64 q)) (by kernel_rfl) ?_
              have hS : w4.drew.cell? ⟨wr.heap.size, 2, none⟩ = some (.int .i64 (j : Int)) ∧ w4.drew.cell? ⟨wr.heap.size, 0, none⟩ = some (.int .i64 q) := ⟨dm_c2 hN4, dm_c0 hN4⟩
              refine held_val 0 (some 41) rfl rfl (by kernel_rfl) (by kernel_rfl) (by kernel_rfl) noPanic_put rfl (.slice (some ⟨w.heap.size, 0, none⟩) l.length l.length) (fun _ => rfl) hS ?_
              simp only [Act.put, List.setIfInBounds_toArray, List.set_cons_zero, List.set_cons_succ]
              refine held_val 1 (some 42) rfl rfl (by kernel_rfl) (by kernel_rfl) (by kernel_rfl) noPanic_put rfl (.pointer (some ⟨wr.heap.size, 2, none⟩)) (fun _ => by go_simp) hS ?_
              simp only [Act.put, List.setIfInBounds_toArray, List.set_cons_zero, List.set_cons_succ]
              refine held_valS 2 (some 43) rfl rfl (by kernel_rfl) (by kernel_rfl) (by kernel_rfl) noPanic_put rfl (.int .i64 (j : Int)) (fun _ hw' => by have h1 := hw'.1; go_simp) hS ?_
              simp only [Act.put, List.setIfInBounds_toArray, List.set_cons_zero, List.set_cons_succ]
              refine held_val 3 (some 44) rfl rfl (by kernel_rfl) (by kernel_rfl) (by kernel_rfl) noPanic_put rfl (.pointer (some ⟨wr.heap.size, 0, none⟩)) (fun _ => by go_simp) hS ?_
              simp only [Act.put, List.setIfInBounds_toArray, List.set_cons_zero, List.set_cons_succ]
              refine held_valS 4 (some 45) rfl rfl (by kernel_rfl) (by kernel_rfl) (by kernel_rfl) noPanic_put rfl (.int .i64 q) (fun _ hw' => by have h1 := hw'.2; go_simp) hS ?_
              simp only [Act.put, List.setIfInBounds_toArray, List.set_cons_zero, List.set_cons_succ]
              refine held_call 5 (some 46) (by kernel_rfl) rfl rfl rfl 110 #[.int .i64 q] (by go_simp) _ (isList_any q w4.drew) ?_
              rintro e w4' ⟨rfl, rfl⟩
              refine ⟨_, rfl, hS, ?_⟩
              simp only [Act.put, List.setIfInBounds_toArray, List.set_cons_zero, List.set_cons_succ]
              refine held_val 6 (some 47) rfl rfl (by kernel_rfl) (by kernel_rfl) (by kernel_rfl) noPanic_put rfl (.pointer (some ⟨w.heap.size, j * 3, none⟩)) (fun _ => by go_simp) hS ?_
              simp only [Act.put, List.setIfInBounds_toArray, List.set_cons_zero, List.set_cons_succ]
              refine held_val 7 (some 48) rfl rfl (by kernel_rfl) (by kernel_rfl) (by kernel_rfl) noPanic_put rfl (.pointer (some ⟨w.heap.size, j * 3 + 2, none⟩)) (fun _ => by go_simp) hS ?_
              simp only [Act.put, List.setIfInBounds_toArray, List.set_cons_zero, List.set_cons_succ]
              refine held_store_cell 8 (by kernel_rfl) rfl rfl 4 _ _ rfl rfl w.heap.size (j * 3 + 2) (.bool (isL q)) rfl rfl one_bool rfl 230 (3 * l.length) _ (World.rowIs.drew hR4) (by omega) ?_
              intro w5 hR5 hg5 hs5
              have hN5 : DmAt w5 wr.heap.size ⟨q, t, (j : Int)⟩ := RowAt.grown (show DmAt w4.drew wr.heap.size ⟨q, t, (j : Int)⟩ from hN4) hg5 (by intro e; injection e; omega)
              have hW5 : Below w.heap.size w w5 := (Below.drew hW4).grown hg5 (by have := hW4.size; exact this) (by intro k hk; injection hk; omega)
              refine ⟨⟨dm_c2 hN5, dm_c0 hN5⟩, ?_⟩
              refine wpAnyH_done (by kernel_rfl) ?_ _
              refine NoPanic.normal ?_
              have hSt5 : SeatAt w5 w.heap.size l (k + 1) := seat_some HU.out HY.out.symm hjk HJL.out (by have h := hR5; rw [HQ.out, HP.out, HR.out] at h; exact h)
              have d0 : w5.cell? ⟨wr.heap.size, 0, none⟩ = some (.int .i64 q) := dm_c0 hN5
              have hak : arnd l k ≤ 25 := by
                rw [arnd_some HU.out HY.out.symm hjk HJL.out]
                have h1 := (HK.out j hjk).2.2
                rw [deep_of HJL.out] at h1
                have := of_decide_eq_true h1
                omega
              clear hR4 hR5 hS hg5 hN4 hN5 hW4
              obtain ⟨z, hz'⟩ : ∃ z : Int, z = (arnd l k : Int) := ⟨_, rfl⟩
              have cz := seat_a hSt5 hk' z (by rw [if_pos (by omega)]; exact hz')
              have HZ := hideT' hz'
              have HAK := hideT' hak
              clear hz' hak
              go_wp2_with fail
              refine (isList_any _ _).mono ?_
              rintro e w6 ⟨rfl, rfl⟩
              cases hil : isL q with
              | false =>
                have HOK2 : Hid (OkTo l (k + 1)) := HK.out.succ HOK.out HTO.out (deep_ofn (by rw [← HQ.out]; exact hil) HAK.out)
                clear hil
                go_wp2
                go_roundg (l.length - (k + 1))
                case measure => omega
                case rel => exact ⟨k + 1, rfl, by omega, by go_num, HOK2, HU2, hSt5, hW5⟩
              | true =>
                have HDE := hideT' (deep_of (l := l) (k := k) (by rw [← HQ.out]; exact hil))
                clear hil
                by_cases h25 : 25 ≤ z
                · have HF := hideT' (NO.out (node_deepBad (by rw [HDE.out]; exact decide_eq_false (by have := HZ.out; omega))))
                  go_wp2
                  go_ret
                  exact ⟨by rw [HF.out]; rfl, hW5⟩
                · have HOK2 : Hid (OkTo l (k + 1)) := HK.out.succ HOK.out HTO.out (by rw [HDE.out]; exact decide_eq_true (by have := HZ.out; omega))
                  go_wp2
                  go_roundg (l.length - (k + 1))
                  case measure => omega
                  case rel => exact ⟨k + 1, rfl, by omega, by go_num, HOK2, HU2, hSt5, hW5⟩
            · go_wp2_with (first | (refine load_dm rfl _ rfl b k rfl l hDr hk' ⟨q, t, y⟩ HDM.out ?_) | (refine store_dv rfl _ _ rfl rfl wr.heap.size ⟨q, t, y⟩ rfl rfl default A ?_; intro w2 hN2 hg2 hs2; have hK2 := WK.out w2 hN2 hg2; have d0 := hK2.1; have d2 := hK2.2.1; have hSt2 := hK2.2.2.1; have hWw2 := hK2.2.2.2; have hs2' : w2.heap.size = wr.heap.size + 1 := (by rw [hs2]; simp); clear hK2 hg2 hs2))
              have hSt5 : SeatAt w2 w.heap.size l (k + 1) := seat_none hSt2 (by rw [← HY.out]; omega)
              have hak : arnd l k ≤ 25 := by rw [arnd_none (by rw [← HY.out]; omega)]; omega
              clear hSt2
              obtain ⟨z, hz'⟩ : ∃ z : Int, z = (arnd l k : Int) := ⟨_, rfl⟩
              have cz := seat_a hSt5 hk' z (by rw [if_pos (by omega)]; exact hz')
              have HZ := hideT' hz'
              have HAK := hideT' hak
              clear hz' hak
              refine (isList_any _ _).mono ?_
              rintro e w6 ⟨rfl, rfl⟩
              cases hil : isL q with
              | false =>
                have HOK2 : Hid (OkTo l (k + 1)) := HK.out.succ HOK.out HTO.out (deep_ofn (by rw [← HQ.out]; exact hil) HAK.out)
                clear hil
                go_wp2
                go_roundg (l.length - (k + 1))
                case measure => omega
                case rel => exact ⟨k + 1, rfl, by omega, by go_num, HOK2, HU2, hSt5, hWw2⟩
              | true =>
                have HDE := hideT' (deep_of (l := l) (k := k) (by rw [← HQ.out]; exact hil))
                clear hil
                by_cases h25 : 25 ≤ z
                · have HF := hideT' (NO.out (node_deepBad (by rw [HDE.out]; exact decide_eq_false (by have := HZ.out; omega))))
                  go_wp2
                  go_ret
                  exact ⟨by rw [HF.out]; rfl, hWw2⟩
                · have HOK2 : Hid (OkTo l (k + 1)) := HK.out.succ HOK.out HTO.out (by rw [HDE.out]; exact decide_eq_true (by have := HZ.out; omega))
                  go_wp2
                  go_roundg (l.length - (k + 1))
                  case measure => omega
                  case rel => exact ⟨k + 1, rfl, by omega, by go_num, HOK2, HU2, hSt5, hWw2⟩
      · have hkn : k = l.length := by omega
        subst hkn
        clear hk hlt hg
        have hsl : w.heap.size < wr.heap.size := World.rowIs.lt hSt
        go_wp2_with fail
        go_loopg [63] l.length (fun g i wq => ∃ k : Nat, g = l.length - k ∧ k ≤ l.length ∧ i = .int .i64 (k : Int) ∧ Hid (∀ j, j < k → nodeOk l j = true) ∧ SeatAt wq w.heap.size l l.length ∧ Below w.heap.size w wq)
        case atStart => exact ⟨0, rfl, by omega, rfl, fun j hj => by omega, hSt, hW⟩
        case round =>
          clear hSt hW hWs hsl
          obtain ⟨k, hg, hk, rfl, HN, hSt, hW⟩ := hrel
          have hWs := hW.size
          have hsl : w.heap.size < wr.heap.size := World.rowIs.lt hSt
          by_cases hlt : (k : Int) < (l.length : Int)
          · have hk' : k < l.length := by omega
            have hDr : DatAt wr b l := RowAt.below HD.out hW hb
            have A : DmAt (wr.alloc (.cells (dmC default) 37)) wr.heap.size default := RowAt.new wr _ _
            obtain ⟨q, t, y, hd, hq, ht, hy⟩ := dm_parts l k
            have HDM := hideT' hd
            have HQ := hideT' hq
            obtain ⟨p, hp⟩ : ∃ p : Int, p = ((prt l l.length k).length : Int) := ⟨_, rfl⟩
            obtain ⟨z, hz'⟩ : ∃ z : Bool, z = lastL l (prt l l.length k) := ⟨_, rfl⟩
            have HP := hideT' hp
            have HZ := hideT' hz'
            have HND : Hid (nodeOk l k = dotOk l k) := by
              obtain ⟨h1, h2, h3⟩ := HK.out k hk'
              unfold Hid nodeOk
              rw [h1, h2, h3]; rfl
            have NO : Hid (nodeOk l k = false → goodAll l = false) := fun h => node_bad hk' h
            have GO : Hid (nodeOk l k = true → ∀ j, j < k + 1 → nodeOk l j = true) := fun h j hj => by
              by_cases e : j = k
              · subst e; exact h
              · exact HN.out j (by omega)
            clear hd hq ht hy hp hz'
            have WALK : ∀ (w1 : World), DmAt w1 wr.heap.size ⟨q, t, y⟩ → (wr.alloc (.cells (dmC default) 37)).grownBy w1 (some wr.heap.size) → w1.cell? ⟨wr.heap.size, 0, none⟩ = some (.int .i64 q) ∧ w1.cell? ⟨w.heap.size, k * 3 + 1, none⟩ = some (.int .i64 p) ∧ w1.cell? ⟨w.heap.size, k * 3 + 2, none⟩ = some (.bool z) ∧ SeatAt w1 w.heap.size l l.length ∧ Below w.heap.size w w1 := fun w1 hN1 hg1 => by
              have hSt1 : SeatAt w1 w.heap.size l l.length := SeatAt.grown (World.rowIs.alloc hSt _) hg1 (by intro e; injection e; omega)
              exact ⟨dm_c0 hN1, seat_p hSt1 hk' p HP.out, seat_e hSt1 hk' z HZ.out, hSt1, (hW.alloc hWs _).grown hg1 (by simp; omega) (by intro k hk; injection hk; omega)⟩
            have WK := hideT' WALK
            clear WALK
            by_cases h6 : q = 6
            · have h6' : (q == 6) = true := by rw [h6]; rfl
              have HDT : Hid (nodeOk l k = (decide (2 ≤ (prt l l.length k).length) && !lastL l (prt l l.length k))) := by
                unfold Hid; rw [HND.out]; unfold dotOk; rw [← HQ.out, decide_eq_true h6]; rfl
              clear h6
              by_cases hp2 : p < 2
              · have HF := hideT' (NO.out (by rw [HDT.out, decide_eq_false (by have := HP.out; omega)]; rfl))
                go_wp2_with (first | (refine load_dm rfl _ rfl b k rfl l hDr hk' ⟨q, t, y⟩ HDM.out ?_) | (refine store_dv rfl _ _ rfl rfl wr.heap.size ⟨q, t, y⟩ rfl rfl default A ?_; intro w1 hN1 hg1 hs1; have hK1 := WK.out w1 hN1 hg1; have k0 := hK1.1; have k1 := hK1.2.1; have k2 := hK1.2.2.1))
                go_ret
                exact ⟨by rw [HF.out]; rfl, hK1.2.2.2.2⟩
              · cases z with
                | true =>
                  have HF := hideT' (NO.out (by rw [HDT.out, ← HZ.out]; simp))
                  go_wp2_with (first | (refine load_dm rfl _ rfl b k rfl l hDr hk' ⟨q, t, y⟩ HDM.out ?_) | (refine store_dv rfl _ _ rfl rfl wr.heap.size ⟨q, t, y⟩ rfl rfl default A ?_; intro w1 hN1 hg1 hs1; have hK1 := WK.out w1 hN1 hg1; have k0 := hK1.1; have k1 := hK1.2.1; have k2 := hK1.2.2.1))
                  go_ret
                  exact ⟨by rw [HF.out]; rfl, hK1.2.2.2.2⟩
                | false =>
                  have HK2 := hideT' (GO.out (by rw [HDT.out, ← HZ.out, decide_eq_true (by have := HP.out; omega)]; rfl))
                  go_wp2_with (first | (refine load_dm rfl _ rfl b k rfl l hDr hk' ⟨q, t, y⟩ HDM.out ?_) | (refine store_dv rfl _ _ rfl rfl wr.heap.size ⟨q, t, y⟩ rfl rfl default A ?_; intro w1 hN1 hg1 hs1; have hK1 := WK.out w1 hN1 hg1; have k0 := hK1.1; have k1 := hK1.2.1; have k2 := hK1.2.2.1))
                  go_roundg (l.length - (k + 1))
                  case measure => omega
                  case rel => exact ⟨k + 1, rfl, by omega, by go_num, HK2, hK1.2.2.2.1, hK1.2.2.2.2⟩
            · have h6' : (q == 6) = false := beq_eq_false_iff_ne.2 h6
              have HK2 := hideT' (GO.out (by rw [HND.out]; unfold dotOk; rw [← HQ.out, decide_eq_false h6]; rfl))
              clear h6
              go_wp2_with (first | (refine load_dm rfl _ rfl b k rfl l hDr hk' ⟨q, t, y⟩ HDM.out ?_) | (refine store_dv rfl _ _ rfl rfl wr.heap.size ⟨q, t, y⟩ rfl rfl default A ?_; intro w1 hN1 hg1 hs1; have hK1 := WK.out w1 hN1 hg1; have k0 := hK1.1; have k1 := hK1.2.1; have k2 := hK1.2.2.1))
              go_roundg (l.length - (k + 1))
              case measure => omega
              case rel => exact ⟨k + 1, rfl, by omega, by go_num, HK2, hK1.2.2.2.1, hK1.2.2.2.2⟩
          · have HG := hideT' (node_all hn3 (fun j hj => HN.out j (by omega)))
            go_wp2
            go_ret
            exact ⟨by rw [HG.out]; rfl, hW⟩

set_option maxHeartbeats 4000000 in
set_option maxRecDepth 100000 in
theorem implGoodData_any (b : Nat) (l : List Dm) (w : World) (hs : ∀ i, i < l.length → (dt l i).size ≤ maxLen) (hD : DatAt w b l) (hT : Tab w.heap.size w) :
    Calls Tryz.prog 98 #[slV b l] w fun e w' => e = .returned (.bool (goodAll l)) ∧ Below w.heap.size w w' := by
  have hz := zero_dm.1
  have HD := hideT' hD
  have HS := hideT' hs
  have HT := hideT' hT
  have hb := RowAt.lt hD
  clear hD hs hT
  by_cases hn : (300 : Int) < (l.length : Int)
  · have HN : Hid (goodAll l = false) := by unfold Hid goodAll; rw [decide_eq_false (by omega)]; rfl
    go_enter Tryz.func98, Tryz.ntmps98
    go_wp2
    go_ret
    exact ⟨by rw [HN.out]; rfl, Below.refl _ _⟩
  · have hn3 : l.length ≤ 300 := by omega
    go_enter Tryz.func98, Tryz.ntmps98
    go_wp2_with fail
    go_loopg [10] l.length (fun g i wr => ∃ k : Nat, g = l.length - k ∧ k ≤ l.length ∧ i = .int .i64 (k : Int) ∧ Hid (∀ j, j < k → upOk l j = true ∧ txtOk (dk l j) (dt l j).data.toList = true) ∧ Hid (Up l k) ∧ Below w.heap.size w wr)
    case atStart => exact ⟨0, rfl, by omega, rfl, fun j hj => by omega, fun j hj => by omega, Below.refl _ _⟩
    case round =>
      obtain ⟨k, hg, hk, rfl, HK, HU, hW⟩ := hrel
      have hWs := hW.size
      by_cases hlt : (k : Int) < (l.length : Int)
      · have hk' : k < l.length := by omega
        have hDr : DatAt wr b l := RowAt.below HD.out hW hb
        have A : DmAt (wr.alloc (.cells (dmC default) 37)) wr.heap.size default := RowAt.new wr _ _
        obtain ⟨q, t, y, hd, hq, ht, hy⟩ := dm_parts l k
        have HDM := hideT' hd
        have HQ := hideT' hq
        have HTX := hideT' ht
        have HY := hideT' hy
        have hts : t.size ≤ maxLen := by rw [ht]; exact HS.out k hk'
        clear hd hq ht hy
        go_wp2_with (first | (refine load_dm rfl _ rfl b k rfl l hDr hk' ⟨q, t, y⟩ HDM.out ?_) | (refine store_dv rfl _ _ rfl rfl wr.heap.size ⟨q, t, y⟩ rfl rfl default A ?_; intro w1 hN1 hg1 hs1; have c0 : w1.cell? ⟨wr.heap.size, 0, none⟩ = some (.int .i64 q) := dm_c0 hN1; have c1 : w1.cell? ⟨wr.heap.size, 1, none⟩ = some (.string t) := dm_c1 hN1; have c2 : w1.cell? ⟨wr.heap.size, 2, none⟩ = some (.int .i64 y) := dm_c2 hN1))
        have hW1 : Below w.heap.size w w1 := (hW.alloc hWs _).grown hg1 (by simp; omega) (by intro k hk; cases hk; omega)
        have hD1 : DatAt w1 b l := RowAt.below HD.out hW1 hb
        have hs1' : w1.heap.size = wr.heap.size + 1 := by rw [hs1]; simp
        have HT1 : Hid (Tab w1.heap.size w1) := (HT.out.on hW1).up hW1.size
        clear A hg1 hs1 hDr hW
        have NO : Hid (nodeOk l k = false → goodAll l = false) := fun h => node_bad hk' h
        refine (goodUp_any b l k _ _ rfl hk' hn3 hD1 HU.out).mono ?_
        rintro e w' ⟨rfl, rfl⟩
        cases hu : upOk l k with
        | false =>
          have HF := hideT' (NO.out (node_upBad hu))
          clear hu
          go_wp2
          go_ret
          exact ⟨by rw [HF.out]; rfl, hW1⟩
        | true =>
          have HOK := hideT' hu
          have HU2 : Hid (Up l (k + 1)) := HU.out.succ hu
          clear hu
          go_wp2_with fail
          refine (goodText_any ⟨q, t, y⟩ _ hts HT1.out).mono ?_
          rintro e w2 ⟨rfl, hW2⟩
          have hWw2 : Below w.heap.size w w2 := hW1.trans (hW2.mono hW1.size)
          clear hN1 hD1 HT1 c0 c1 c2 hW2
          cases htx : txtOk q t.data.toList with
          | false =>
            have HF := hideT' (NO.out (node_txtBad (by rw [← HQ.out, ← HTX.out]; exact htx)))
            clear htx
            go_wp2
            go_ret
            exact ⟨by rw [HF.out]; rfl, hWw2⟩
          | true =>
            have HTO : Hid (txtOk (dk l k) (dt l k).data.toList = true) := by unfold Hid; rw [← HQ.out, ← HTX.out]; exact htx
            have HK2 : Hid (∀ j, j < k + 1 → upOk l j = true ∧ txtOk (dk l j) (dt l j).data.toList = true) := fun j hj => by
              by_cases e : j = k
              · subst e; exact ⟨HOK.out, HTO.out⟩
              · exact HK.out j (by omega)
            clear htx
            go_wp2
            go_roundg (l.length - (k + 1))
            case measure => omega
            case rel => exact ⟨k + 1, rfl, by omega, by go_num, HK2, HU2, hWw2⟩
      · have HAll : Hid (∀ j, j < l.length → upOk l j = true ∧ txtOk (dk l j) (dt l j).data.toList = true) := fun j hj => HK.out j (by omega)
        have hDr : DatAt wr b l := RowAt.below HD.out hW hb
        go_wp2_with fail
        refine (goodLists_any b l _ hn3 HAll.out hDr).mono ?_
        rintro e w2 ⟨rfl, hW2⟩
        obtain ⟨o, ho⟩ : ∃ o, o = goodAll l := ⟨_, rfl⟩
        rw [← ho]
        have HO := hideT' ho
        clear ho
        go_wp2
        go_ret
        exact ⟨by rw [← HO.out]; rfl, hW.trans (hW2.mono hWs)⟩
end Go.Proofs.YtehjejjkfeljmaaGreatDoor

/-
  The model's reader in memory; blanks passed over, a code set, a word read.
-/
namespace Go.Proofs.YtehjejjkfeljmaaGreatDoor
open Go.RowKit
set_option linter.unusedVariables false

/-- The reader: its text, where it is, the slice of nodes, the code. -/
def rC (s : ByteArray) (a : Int) (v : Value) (c : Int) : Array Value := #[.string s, .int .i64 a, v, .int .i64 c]
def RAt (w : World) (b : Nat) (s : ByteArray) (a : Int) (v : Value) (c : Int) : Prop := RowAt w b 134 (rC s a v c)
theorem r_0 {w : World} {b : Nat} {s : ByteArray} {a c : Int} {v : Value} (h : RAt w b s a v c) : w.cell? ⟨b, 0, none⟩ = some (.string s) := by rw [cell_of_row w b _ _ _ _ h]; rfl
theorem r_1 {w : World} {b : Nat} {s : ByteArray} {a c : Int} {v : Value} (h : RAt w b s a v c) : w.cell? ⟨b, 1, none⟩ = some (.int .i64 a) := by rw [cell_of_row w b _ _ _ _ h]; rfl
theorem r_2 {w : World} {b : Nat} {s : ByteArray} {a c : Int} {v : Value} (h : RAt w b s a v c) : w.cell? ⟨b, 2, none⟩ = some v := by rw [cell_of_row w b _ _ _ _ h]; rfl
theorem r_3 {w : World} {b : Nat} {s : ByteArray} {a c : Int} {v : Value} (h : RAt w b s a v c) : w.cell? ⟨b, 3, none⟩ = some (.int .i64 c) := by rw [cell_of_row w b _ _ _ _ h]; rfl
/-- One cell of a row is written. -/
theorem store_at {ops : Array Oper} {rest : List Oper} {op : Oper} {a : Act} {w : World} {Q : Exit → Act → World → Prop} (hgd : op.guard = none) (ty : TypeId) (x y : Operand) (ho : op.op = .store ty x y) (hd : op.dst = none)
    (b o : Nat) (v : Value) (hx : a.eval x = .pointer (some ⟨b, o, none⟩)) (hy : a.eval y = v) (hi : (Tryz.prog.info? ty).map (·.size) = some 1) (h1 : v.oneCell' = true) (t : TypeId) (cs : Array Value) (hR : RowAt w b t cs) (hon : o < cs.size)
    (h : ∀ w', RowAt w' b t (cs.setIfInBounds o v) → w.grownBy w' (some b) → w'.heap.size = w.heap.size → wpList Tryz.prog ops Q rest a w') : wpList Tryz.prog ops Q (op :: rest) a w :=
  wpList_plain hgd fun _ hK => by
    have hc : (w.cell? ⟨b, o, none⟩).isSome = true := by rw [cell_of_row w b _ _ _ _ hR, Array.getElem?_eq_getElem hon]; rfl
    unfold Oper.wp execOp
    simp only [ho, hx, hy, Instr.storeAt, Instr.sureAddr, Sem.run_bind, Sem.run_pure, Result.andThen_ok, run_storeVar_cell w b o ty v hc (frozen_of_row w b _ _ _ hR) hi h1]
    have := h _ (heap_setCell_same w b o _ _ _ hR) (grown_set w b o v) (by simp)
    have e : a.put op.dst undef = a := by rw [hd]; rfl
    refine hK _ _ ?_
    rw [e]
    exact this
theorem grown_trans {w w' w'' : World} {b : Nat} (h : w.grownBy w' (some b)) (h' : w'.grownBy w'' (some b)) : w.grownBy w'' (some b) :=
  ⟨h'.os.trans h.os, h'.tape.trans h.tape, h'.output.trans h.output, Nat.le_trans h.size h'.size, fun k hk hne => (h'.block k (Nat.lt_of_lt_of_le hk h.size) hne).trans (h.block k hk hne)⟩
theorem grown_refl (w : World) (r : Option Nat) : w.grownBy w r := ⟨rfl, rfl, rfl, Nat.le_refl _, fun _ _ _ => rfl⟩
theorem grown_drewN {w w' : World} {r : Option Nat} (h : w.grownBy w' r) (n : Nat) : w.grownBy (w'.drewN n) r := ⟨h.os, h.tape, h.output, h.size, h.block⟩
theorem grown_ahead {w w' : World} {r : Option Nat} (n : Nat) (h : (w.drewN n).grownBy w' r) : w.grownBy w' r := ⟨h.os, h.tape, h.output, h.size, h.block⟩

/-- A code stays as it is. -/
def cod (c k : Int) : Int := if c = 0 then k else c

set_option maxHeartbeats 1000000 in
set_option maxRecDepth 100000 in
theorem bad_any (b : Nat) (s : ByteArray) (a c k : Int) (v : Value) (w : World) (hR : RAt w b s a v c) :
    Calls Tryz.prog 119 #[.pointer (some ⟨b, 0, none⟩), .int .i64 k] w fun e w' => e = .returned (.tuple #[]) ∧ RAt w' b s a v (cod c k) ∧ w.grownBy w' (some b) ∧ w'.heap.size = w.heap.size := by
  have c3 := r_3 hR
  by_cases h0 : c = 0
  · subst h0
    go_enter Tryz.func119, Tryz.ntmps119
    go_wp2_with (refine store_at rfl 3 _ _ rfl rfl b 3 (.int .i64 k) rfl rfl one_int rfl 134 (rC s a v 0) hR (show 3 < 4 by omega) ?_; intro w1 hR1 hg1 hs1)
    go_end0
    exact ⟨rfl, hR1, hg1, hs1⟩
  · have h0' : (c == 0) = false := beq_eq_false_iff_ne.2 h0
    have HC : Hid (cod c k = c) := if_neg h0
    go_enter Tryz.func119, Tryz.ntmps119
    go_wp2
    go_end0
    exact ⟨rfl, by rw [HC.out]; exact hR, grown_refl _ _, rfl⟩

set_option maxHeartbeats 2000000 in
set_option maxRecDepth 100000 in
theorem skip_any (b : Nat) (s : ByteArray) (a : Nat) (c : Int) (v : Value) (w : World) (hs : s.size ≤ 1500) (ha : a ≤ s.size) (hR : RAt w b s (a : Int) v c) :
    Calls Tryz.prog 79 #[.pointer (some ⟨b, 0, none⟩)] w fun e w' => e = .returned (.tuple #[]) ∧ RAt w' b s (skipP s a : Int) v c ∧ w.grownBy w' (some b) ∧ w'.heap.size = w.heap.size := by
  go_enter Tryz.func79, Tryz.ntmps79
  go_wp2_with fail
  go_loopg [] (s.size - a) (fun g wr => ∃ k : Nat, g = s.size - k ∧ k ≤ s.size ∧ Hid (skipF s (s.size - k) k false = skipP s a) ∧ RAt wr b s (k : Int) v c ∧ w.grownBy wr (some b) ∧ Aside (wr.heap.size = w.heap.size))
  case atStart => exact ⟨a, rfl, ha, rfl, hR, grown_refl _ _, rfl⟩
  case round =>
    obtain ⟨k, hg, hk, HK, hRr, hG, hZ⟩ := hrel
    have c0 := r_0 hRr
    have c1 := r_1 hRr
    clear hR
    by_cases hlt : (k : Int) < (s.size : Int)
    · have hk' : k < s.size := by omega
      have HB := hideT' (byteAt_eq hk')
      by_cases hx32 : s[k] = 32
      · have hx := hx32
        clear hx32
        have hb : (s[k].toNat : Int) = 32 := by rw [hx]; rfl
        have HN : Hid (skipF s (s.size - (k + 1)) (k + 1) false = skipP s a) := by unfold Hid; rw [← HK.out, skip_blank hk' (by rw [HB.out, hx]; decide)]
        clear hx
        go_wp2_with fail
        go_quiet (fail)
        go_wp2_with fail
        go_quiet (fail)
        go_wp2_with (refine store_at rfl 3 _ _ rfl rfl b 1 (.int .i64 ((k : Int) + 1)) rfl rfl one_int rfl 134 (rC s k v c) hRr (show 1 < 4 by omega) ?_; intro w1 hR1 hg1 hs1)
        go_roundg (s.size - (k + 1))
        case measure => omega
        case rel => exact ⟨k + 1, rfl, by omega, HN, hR1, grown_trans hG (grown_ahead _ hg1), by have := hZ.out; unfold Aside; rw [hs1]; exact this⟩
      · have n32 : ((s[k].toNat : Int) == 32) = false := byte_ne (n := 32) (by decide) hx32
        by_cases hx9 : s[k] = 9
        · have hx := hx9
          clear hx9
          have hb : (s[k].toNat : Int) = 9 := by rw [hx]; rfl
          have HN : Hid (skipF s (s.size - (k + 1)) (k + 1) false = skipP s a) := by unfold Hid; rw [← HK.out, skip_blank hk' (by rw [HB.out, hx]; decide)]
          clear hx
          go_wp2_with fail
          go_quiet (fail)
          go_wp2_with fail
          go_quiet (fail)
          go_wp2_with (refine store_at rfl 3 _ _ rfl rfl b 1 (.int .i64 ((k : Int) + 1)) rfl rfl one_int rfl 134 (rC s k v c) hRr (show 1 < 4 by omega) ?_; intro w1 hR1 hg1 hs1)
          go_roundg (s.size - (k + 1))
          case measure => omega
          case rel => exact ⟨k + 1, rfl, by omega, HN, hR1, grown_trans hG (grown_ahead _ hg1), by have := hZ.out; unfold Aside; rw [hs1]; exact this⟩
        · have n9 : ((s[k].toNat : Int) == 9) = false := byte_ne (n := 9) (by decide) hx9
          by_cases hx10 : s[k] = 10
          · have hx := hx10
            clear hx10
            have hb : (s[k].toNat : Int) = 10 := by rw [hx]; rfl
            have HN : Hid (skipF s (s.size - (k + 1)) (k + 1) false = skipP s a) := by unfold Hid; rw [← HK.out, skip_blank hk' (by rw [HB.out, hx]; decide)]
            clear hx
            go_wp2_with fail
            go_quiet (fail)
            go_wp2_with fail
            go_quiet (fail)
            go_wp2_with (refine store_at rfl 3 _ _ rfl rfl b 1 (.int .i64 ((k : Int) + 1)) rfl rfl one_int rfl 134 (rC s k v c) hRr (show 1 < 4 by omega) ?_; intro w1 hR1 hg1 hs1)
            go_roundg (s.size - (k + 1))
            case measure => omega
            case rel => exact ⟨k + 1, rfl, by omega, HN, hR1, grown_trans hG (grown_ahead _ hg1), by have := hZ.out; unfold Aside; rw [hs1]; exact this⟩
          · have n10 : ((s[k].toNat : Int) == 10) = false := byte_ne (n := 10) (by decide) hx10
            by_cases hx13 : s[k] = 13
            · have hx := hx13
              clear hx13
              have hb : (s[k].toNat : Int) = 13 := by rw [hx]; rfl
              have HN : Hid (skipF s (s.size - (k + 1)) (k + 1) false = skipP s a) := by unfold Hid; rw [← HK.out, skip_blank hk' (by rw [HB.out, hx]; decide)]
              clear hx
              go_wp2_with fail
              go_quiet (fail)
              go_wp2_with fail
              go_quiet (fail)
              go_wp2_with (refine store_at rfl 3 _ _ rfl rfl b 1 (.int .i64 ((k : Int) + 1)) rfl rfl one_int rfl 134 (rC s k v c) hRr (show 1 < 4 by omega) ?_; intro w1 hR1 hg1 hs1)
              go_roundg (s.size - (k + 1))
              case measure => omega
              case rel => exact ⟨k + 1, rfl, by omega, HN, hR1, grown_trans hG (grown_ahead _ hg1), by have := hZ.out; unfold Aside; rw [hs1]; exact this⟩
            · have n13 : ((s[k].toNat : Int) == 13) = false := byte_ne (n := 13) (by decide) hx13
              by_cases hx59 : s[k] = 59
              · have hb : (s[k].toNat : Int) = 59 := by rw [hx59]; rfl
                have HI0 : Hid (skipF s (s.size - k) k true = skipP s a) := by unfold Hid; rw [← HK.out, skip_semi hk' (by rw [HB.out]; exact hx59)]
                have HX := hideT' hx59
                clear hx32 hx9 hx10 hx13 hx59 n32 n9 n10 n13
                go_wp2_with fail
                go_quiet (fail)
                go_wp2_with fail
                go_quiet (fail)
                go_wp2_with fail
                go_loopg [] (s.size - k) (fun g wq => ∃ j : Nat, g = s.size - j ∧ j ≤ s.size ∧ k ≤ j ∧ Hid (skipF s (s.size - j) j true = skipP s a) ∧ RAt wq b s (j : Int) v c ∧ w.grownBy wq (some b) ∧ Aside (wq.heap.size = w.heap.size))
                case atStart => exact ⟨k, rfl, by omega, Nat.le_refl _, HI0, hRr, grown_drewN hG _, hZ⟩
                case round =>
                  clear hRr hG hZ c0 c1
                  obtain ⟨j, hgj, hj, hkj, HJ, hRj, hG, hZ⟩ := hrel
                  have c0 := r_0 hRj
                  have c1 := r_1 hRj
                  by_cases hjl : (j : Int) < (s.size : Int)
                  · have hj' : j < s.size := by omega
                    have HBJ := hideT' (byteAt_eq hj')
                    by_cases hx10 : s[j] = 10
                    · have hbj : (s[j].toNat : Int) = 10 := by rw [hx10]; rfl
                      have HN : Hid (skipF s (s.size - j) j false = skipP s a) := by unfold Hid; rw [← HJ.out, skip_nl hj' (by rw [HBJ.out]; exact hx10)]
                      have hjk : k < j := by
                        by_cases e : j = k
                        · subst e; rw [HX.out] at hx10; exact absurd hx10 (by decide)
                        · omega
                      clear hx10
                      go_wp2_with fail
                      go_quiet (fail)
                      go_wp2
                      go_roundg (s.size - j)
                      case measure => omega
                      case rel => exact ⟨j, rfl, by omega, HN, hRj, grown_drewN hG _, hZ⟩
                    · have n10 : ((s[j].toNat : Int) != 10) = true := by
                        have := byte_ne (n := 10) (by decide) hx10
                        simpa [bne] using this
                      have HN : Hid (skipF s (s.size - (j + 1)) (j + 1) true = skipP s a) := by unfold Hid; rw [← HJ.out, skip_com hj' (by rw [HBJ.out]; exact hx10)]
                      clear hx10
                      go_wp2_with fail
                      go_quiet (fail)
                      go_wp2_with (refine store_at rfl 3 _ _ rfl rfl b 1 (.int .i64 ((j : Int) + 1)) rfl rfl one_int rfl 134 (rC s j v c) hRj (show 1 < 4 by omega) ?_; intro w1 hR1 hg1 hs1)
                      go_roundg (s.size - (j + 1))
                      case measure => omega
                      case rel => exact ⟨j + 1, rfl, by omega, by omega, HN, hR1, grown_trans hG (grown_ahead _ hg1), by have := hZ.out; unfold Aside; rw [hs1]; exact this⟩
                  · have hje : j = s.size := by omega
                    have HN : Hid (skipF s (s.size - j) j false = skipP s a) := by unfold Hid; rw [← HJ.out, skip_end hje, skip_end hje]
                    go_wp2_with fail
                    go_quiet (fail)
                    go_wp2
                    go_roundg (s.size - j)
                    case measure => omega
                    case rel => exact ⟨j, rfl, by omega, HN, hRj, grown_drewN hG _, hZ⟩
              · have n59 : ((s[k].toNat : Int) == 59) = false := byte_ne (n := 59) (by decide) hx59
                have HN : Hid (skipP s a = k) := by unfold Hid; rw [← HK.out]; exact skip_stop hk' (by rw [HB.out]; exact hx32) (by rw [HB.out]; exact hx9) (by rw [HB.out]; exact hx10) (by rw [HB.out]; exact hx13) (by rw [HB.out]; exact hx59)
                clear hx32 hx9 hx10 hx13 hx59
                go_wp2_with fail
                go_quiet (fail)
                go_wp2_with fail
                go_quiet (fail)
                go_wp2
                (try simp only [Exit.inBlock, Exit.then]); refine bodyPost_ret (results_none rfl _ _ _) rfl ?_
                exact ⟨rfl, by rw [HN.out]; exact hRr, grown_drewN hG _, hZ.out⟩
    · have hke : k = s.size := by omega
      have HE := hideT' (skip_end hke false)
      go_wp2_with fail
      go_quiet (fail)
      go_wp2
      go_end0
      refine ⟨rfl, ?_, grown_drewN hG _, hZ.out⟩
      rw [← HK.out, HE.out]
      exact hRr
end Go.Proofs.YtehjejjkfeljmaaGreatDoor

/-
  What appendString and behindDot of impl answer.
-/
namespace Go.Proofs.YtehjejjkfeljmaaGreatDoor
open Go.RowKit
set_option linter.unusedVariables false

/-- A slice of bytes that the call owns. -/
def BytesAt (w : World) (B : Nat) (v : Value) (t : List UInt8) : Prop := w.ownsRow B 5 1 v t.length (Lib.byteCells t)
theorem BytesAt.nil (w : World) (B : Nat) : BytesAt w B (.slice none 0 0) [] := World.ownsRow_nil _ _ _ _
theorem bytes_snoc (t : List UInt8) (c : UInt8) : Lib.byteCells t ++ [Value.int .u8 (c.toNat : Int)] = Lib.byteCells (t ++ [c]) := by simp [Lib.byteCells]
theorem bytes_app (t : List UInt8) (s : ByteArray) : Lib.byteCells t ++ Lib.strCells s = Lib.byteCells (t ++ s.data.toList) := by simp [Lib.byteCells, Lib.strCells]
theorem two_cells (w : World) (t : TypeId) (x y : Value) : ∀ j u, [x, y][j]? = some u → (w.alloc (.cells #[x, y] t)).cell? ((⟨w.heap.size, 0, none⟩ : Addr).add j) = some u := fun j u h => by
  have e : (⟨w.heap.size, 0, none⟩ : Addr).add j = ⟨w.heap.size, j, none⟩ := by unfold Addr.add; split <;> simp_all
  rw [e, cell_of_row _ w.heap.size j #[x, y] t (0, 0) (heap_alloc_new _ _)]
  simpa using h
theorem two_one (x y : Int) : ∀ u ∈ [Value.int .u8 x, Value.int .u8 y], u.oneCell' = true := by
  intro u hu; simp at hu; rcases hu with rfl | rfl <;> rfl

theorem esc_len (c : UInt8) : (escB c).length ≤ 2 := by unfold escB; split <;> (try split) <;> simp
theorem esc_flat : ∀ l : List UInt8, (l.flatMap escB).length ≤ 2 * l.length
  | [] => by simp
  | c :: l => by
    rw [List.flatMap_cons, List.length_append, List.length_cons]
    have := esc_len c
    have := esc_flat l
    omega
theorem take_esc (s : ByteArray) (k : Nat) (h : k < s.size) : (s.data.toList.take (k + 1)).flatMap escB = (s.data.toList.take k).flatMap escB ++ escB s[k] := by
  rw [take_snoc s k h, List.flatMap_append]; simp

set_option maxHeartbeats 1000000 in
set_option maxRecDepth 100000 in
theorem appendString_any (B : Nat) (v : Value) (t : List UInt8) (s : ByteArray) (w : World) (hB : B ≤ w.heap.size) (hv : BytesAt w B v t) (ht : t.length ≤ 1000000000) (hs : s.size ≤ 1048576) :
    Calls Tryz.prog 215 #[v, .string s] w fun e w' => ∃ v' : Value, e = .returned v' ∧ BytesAt w' B v' (t ++ quo s.data.toList) ∧ Below B w w' := by
  obtain ⟨i0, hi, hz0, hz1, hz2⟩ := info_parts info_u8
  have hsl : s.data.toList.length = s.size := by simp
  have HSL := hideT' hsl
  clear hsl
  unfold BytesAt at hv
  obtain ⟨n0, hn0⟩ : ∃ n, n = t.length := ⟨_, rfl⟩
  rw [← hn0] at hv ht
  have HN0 := hideT' hn0
  clear hn0
  go_enter Tryz.func215, Tryz.ntmps215
  go_wp2_with (first | (at_builtin; refine wpList_append_own _ rfl _ _ 22 rfl B 5 i0 (.int .u8 0) 1 1 Tryz.underlying22 hi hz0 hz1 hz2 rfl (by decide) _ _ _ rfl (hv.alloc _) ⟨w.heap.size, 0, none⟩ 1 1 [.int .u8 34] rfl rfl (cell_one_new _ _ _) (one_byte _) (by unfold maxLen; omega) (by omega) (by simp; omega) ?_; intro v1 w1 hv1 hg1 _))
  have hB1 : Below B w w1 := ((Below.refl B w).alloc hB _).grown hg1 (by simp; omega) (fun k hk => own_ge hv hk)
  have hs1 := hB1.size
  have hv1' : w1.ownsRow B 5 1 v1 (n0 + 1) (Lib.byteCells (t ++ [34])) := by rw [← bytes_snoc]; exact hv1
  clear hv1 hg1 hv
  go_loopg [0, 11] s.size (fun g x i wr => ∃ (k n : Nat), g = s.size - k ∧ k ≤ s.size ∧ i = .int .i64 (k : Int) ∧ wr.ownsRow B 5 1 x n (Lib.byteCells (t ++ [34] ++ (s.data.toList.take k).flatMap escB)) ∧ Hid (n = (t ++ [34] ++ (s.data.toList.take k).flatMap escB).length) ∧ n ≤ n0 + 1 + 2 * k ∧ Below B w wr)
  case atStart =>
    refine ⟨0, n0 + 1, rfl, by omega, rfl, ?_, ?_, by omega, hB1⟩
    · simpa using hv1'
    · unfold Hid; rw [HN0.out]; simp
  case round =>
    obtain ⟨k, n, hg, hk, rfl, hv, HN, hn, hW⟩ := hrel
    have hWs := hW.size
    clear hv1' hB1
    by_cases hlt : (k : Int) < (s.size : Int)
    · have hk' : k < s.size := by omega
      have HT2 := hideT' (take_esc s k hk')
      by_cases h34 : s[k] = 34
      · have hb : (s[k].toNat : Int) = 34 := by rw [h34]; rfl
        have HE : Hid (escB s[k] = [92, 34]) := by unfold Hid; rw [h34]; rfl
        clear h34
        go_wp2_with (first | (at_builtin; refine wpList_append_own _ rfl _ _ 22 rfl B 5 i0 (.int .u8 0) 1 1 Tryz.underlying22 hi hz0 hz1 hz2 rfl (by decide) _ _ _ rfl (hv.alloc _) ⟨wr.heap.size, 0, none⟩ 2 2 [.int .u8 92, .int .u8 34] rfl rfl (two_cells _ _ _ _) (two_one _ _) (by unfold maxLen; omega) (by omega) (by simp; omega) ?_; intro v2 w2 hv2 hg2 _))
        go_roundg (s.size - (k + 1))
        case measure => omega
        case rel =>
          refine ⟨k + 1, n + 2, rfl, by omega, by go_num, ?_, ?_, by omega, (hW.alloc (by omega) _).grown hg2 (by simp; omega) (fun k hk => own_ge hv hk)⟩
          · rw [HT2.out, HE.out]; simpa [Lib.byteCells] using hv2
          · unfold Hid; rw [HT2.out, HE.out, HN.out]; simp only [List.length_append, List.length_cons, List.length_nil]; omega
      · have n34 : ((s[k].toNat : Int) == 34) = false := byte_ne (n := 34) (by decide) h34
        by_cases h92 : s[k] = 92
        · have hb : (s[k].toNat : Int) = 92 := by rw [h92]; rfl
          have HE : Hid (escB s[k] = [92, 92]) := by unfold Hid; rw [h92]; rfl
          clear h92 h34 n34
          go_wp2_with (first | (at_builtin; refine wpList_append_own _ rfl _ _ 22 rfl B 5 i0 (.int .u8 0) 1 1 Tryz.underlying22 hi hz0 hz1 hz2 rfl (by decide) _ _ _ rfl (hv.alloc _) ⟨wr.heap.size, 0, none⟩ 2 2 [.int .u8 92, .int .u8 92] rfl rfl (two_cells _ _ _ _) (two_one _ _) (by unfold maxLen; omega) (by omega) (by simp; omega) ?_; intro v2 w2 hv2 hg2 _))
          go_roundg (s.size - (k + 1))
          case measure => omega
          case rel =>
            refine ⟨k + 1, n + 2, rfl, by omega, by go_num, ?_, ?_, by omega, (hW.alloc (by omega) _).grown hg2 (by simp; omega) (fun k hk => own_ge hv hk)⟩
            · rw [HT2.out, HE.out]; simpa [Lib.byteCells] using hv2
            · unfold Hid; rw [HT2.out, HE.out, HN.out]; simp only [List.length_append, List.length_cons, List.length_nil]; omega
        · have n92 : ((s[k].toNat : Int) == 92) = false := byte_ne (n := 92) (by decide) h92
          by_cases h10 : s[k] = 10
          · have hb : (s[k].toNat : Int) = 10 := by rw [h10]; rfl
            have HE : Hid (escB s[k] = [92, 110]) := by unfold Hid; rw [h10]; rfl
            clear h92 h34 n34 n92 h10
            go_wp2_with (first | (at_builtin; refine Lib.wpList_append_own_string _ rfl _ _ 22 9 rfl B 5 i0 Tryz.underlying22 Tryz.underlying9 hi hz0 hz1 hz2 _ _ _ rfl hv ⟨#[92, 110]⟩ rfl (show n + 2 ≤ maxLen by unfold maxLen; omega) (show n + 2 ≤ _ by omega) (by omega) ?_; intro v2 w2 hv2 hg2 _))
            go_roundg (s.size - (k + 1))
            case measure => omega
            case rel =>
              refine ⟨k + 1, n + 2, rfl, by omega, by go_num, ?_, ?_, by omega, hW.grown hg2 (by omega) (fun k hk => own_ge hv hk)⟩
              · have hv3 : w2.ownsRow B 5 1 v2 (n + 2) _ := hv2
                rw [HT2.out, HE.out]; rw [bytes_app] at hv3; simpa using hv3
              · unfold Hid; rw [HT2.out, HE.out, HN.out]; simp only [List.length_append, List.length_cons, List.length_nil]; omega
          · have n10 : ((s[k].toNat : Int) == 10) = false := byte_ne (n := 10) (by decide) h10
            have HE : Hid (escB s[k] = [s[k]]) := by unfold Hid escB; rw [if_neg (by simp [h34, h92]), if_neg h10]
            clear h92 h34 h10
            go_wp2_with (first | (at_builtin; refine wpList_append_own _ rfl _ _ 22 rfl B 5 i0 (.int .u8 0) 1 1 Tryz.underlying22 hi hz0 hz1 hz2 rfl (by decide) _ _ _ rfl (hv.alloc _) ⟨wr.heap.size, 0, none⟩ 1 1 [.int .u8 (s[k].toNat : Int)] rfl rfl (cell_one_new _ _ _) (one_byte _) (by unfold maxLen; omega) (by omega) (by simp; omega) ?_; intro v2 w2 hv2 hg2 _))
            go_roundg (s.size - (k + 1))
            case measure => omega
            case rel =>
              refine ⟨k + 1, n + 1, rfl, by omega, by go_num, ?_, ?_, by omega, (hW.alloc (by omega) _).grown hg2 (by simp; omega) (fun k hk => own_ge hv hk)⟩
              · rw [HT2.out, HE.out]; rw [bytes_snoc] at hv2; simpa using hv2
              · unfold Hid; rw [HT2.out, HE.out, HN.out]; simp only [List.length_append, List.length_cons, List.length_nil]; omega
    · have hke : k = s.size := by omega
      have hfull : Hid (s.data.toList.take k = s.data.toList) := List.take_of_length_le (by rw [HSL.out]; omega)
      clear hke
      go_wp2_with (first | (at_builtin; refine wpList_append_own _ rfl _ _ 22 rfl B 5 i0 (.int .u8 0) 1 1 Tryz.underlying22 hi hz0 hz1 hz2 rfl (by decide) _ _ _ rfl (hv.alloc _) ⟨wr.heap.size, 0, none⟩ 1 1 [.int .u8 34] rfl rfl (cell_one_new _ _ _) (one_byte _) (by unfold maxLen; omega) (by omega) (by simp; omega) ?_; intro v2 w2 hv2 hg2 _))
      go_ret
      refine ⟨v2, rfl, ?_, (hW.alloc (by omega) _).grown hg2 (by simp; omega) (fun k hk => own_ge hv hk)⟩
      have e : t ++ quo s.data.toList = t ++ [34] ++ s.data.toList.flatMap escB ++ [34] := by unfold quo; simp
      have h2 : Lib.byteCells (t ++ [34] ++ (s.data.toList.take k).flatMap escB) ++ [Value.int .u8 34] = Lib.byteCells (t ++ quo s.data.toList) := by rw [hfull.out, e, ← bytes_snoc]; rfl
      have h3 : n + 1 = (t ++ quo s.data.toList).length := by rw [HN.out, hfull.out, e]; simp only [List.length_append, List.length_cons, List.length_nil]
      unfold BytesAt
      rw [← h3, ← h2]
      exact hv2

set_option maxHeartbeats 1000000 in
set_option maxRecDepth 100000 in
theorem behindDot_any (b : Nat) (l : List Dm) (k : Nat) (x : Int) (w : World) (hx : x = (k : Int)) (hk : k < l.length) (hn : l.length ≤ 300) (hD : DatAt w b l) (hu : -1 ≤ du l k ∧ du l k < (k : Int)) :
    Calls Tryz.prog 154 #[slV b l, .int .i64 x] w fun e w' => e = .returned (.bool (behB l k)) ∧ w' = w := by
  subst hx
  have HD := hideT' hD
  have hcu := dat_u hD hk
  have hck := dat_k hD hk
  obtain ⟨y, hy⟩ : ∃ y, y = du l k := ⟨_, rfl⟩
  obtain ⟨q, hq⟩ : ∃ q, q = dk l k := ⟨_, rfl⟩
  rw [← hy] at hcu hu
  rw [← hq] at hck
  have HY := hideT' hy
  have HQ := hideT' hq
  clear hD hy hq
  by_cases h0 : y < 0
  · have HN : Hid (behB l k = false) := by unfold Hid behB dotK; rw [← HY.out, decide_eq_false (by omega)]; rfl
    go_enter Tryz.func154, Tryz.ntmps154
    go_wp2
    go_ret
    exact ⟨by rw [HN.out]; rfl, rfl⟩
  · obtain ⟨j, rfl⟩ : ∃ j : Nat, y = (j : Int) := ⟨y.toNat, by omega⟩
    have hcj := dat_k HD.out (show j < l.length by omega)
    obtain ⟨p, hp⟩ : ∃ p, p = dk l j := ⟨_, rfl⟩
    rw [← hp] at hcj
    by_cases h6 : p = 6
    · have HB : Hid (behB l k = (!isL q && (decide (k + 1 = l.length) || !decide (du l (k + 1) = (j : Int))))) := by
        unfold Hid behB dotK; rw [← HY.out, Int.toNat_natCast, ← hp, h6, ← HQ.out]; rfl
      clear hp
      subst h6
      go_enter Tryz.func154, Tryz.ntmps154
      go_wp2_with fail
      refine (isList_any _ _).mono ?_
      rintro e w' ⟨rfl, rfl⟩
      cases hl : isL q with
      | true =>
        rw [hl] at HB
        clear hl
        go_wp2
        go_ret
        exact ⟨by rw [HB.out]; rfl, rfl⟩
      | false =>
        rw [hl] at HB
        clear hl
        by_cases he : k + 1 = l.length
        · have he' : ((k : Int) + 1 == (l.length : Int)) = true := by rw [← he]; simp
          rw [decide_eq_true he] at HB
          clear he
          go_wp2
          go_ret
          exact ⟨by rw [HB.out]; rfl, rfl⟩
        · have he' : ((k : Int) + 1 == (l.length : Int)) = false := beq_eq_false_iff_ne.2 (by omega)
          have hk2 : k + 1 < l.length := by omega
          have hk3 : (k : Int) + 1 < (l.length : Int) := by omega
          have hcu2 := dat_u HD.out hk2
          obtain ⟨z, hz⟩ : ∃ z, z = du l (k + 1) := ⟨_, rfl⟩
          rw [← hz] at hcu2
          rw [decide_eq_false he, ← hz] at HB
          obtain ⟨k1, hk1⟩ : ∃ k1, k1 = k + 1 := ⟨_, rfl⟩
          rw [← hk1] at hcu2
          have hkk : (k : Int) + 1 = (k1 : Int) := by omega
          clear he hz hk1
          rw [hkk] at he' hk3
          go_wp2
          go_ret
          exact ⟨by rw [HB.out]; rfl, rfl⟩
    · have h6' : (p != 6) = true := by simpa using h6
      have HN : Hid (behB l k = false) := by unfold Hid behB dotK; rw [← HY.out, Int.toNat_natCast, ← hp, decide_eq_false h6]; simp
      clear hp h6
      go_enter Tryz.func154, Tryz.ntmps154
      go_wp2
      go_ret
      exact ⟨by rw [HN.out]; rfl, rfl⟩
end Go.Proofs.YtehjejjkfeljmaaGreatDoor

/-
  What appendParts and appendDatum of impl answer, each by the other one.
-/
namespace Go.Proofs.YtehjejjkfeljmaaGreatDoor
open Go.RowKit
set_option linter.unusedVariables false

structure Fine (l : List Dm) : Prop where
  few : l.length ≤ 300
  up : AllUp l
  dot : ∀ k, k < l.length → dotOk l k = true
  txt : ∀ k, k < l.length → txtOk (dk l k) (dt l k).data.toList = true
  size : ∀ k, k < l.length → (dt l k).size ≤ 1048576
theorem kind_of {q : Int} {t : List UInt8} (h : txtOk q t = true) : q = 1 ∨ q = 2 ∨ q = 3 ∨ q = 4 ∨ q = 5 ∨ q = 6 := by
  by_cases h1 : q = 1
  · exact .inl h1
  · by_cases h2 : q = 2
    · exact .inr (.inl h2)
    · by_cases h3 : q = 3
      · exact .inr (.inr (.inl h3))
      · by_cases h4 : q = 4
        · exact .inr (.inr (.inr (.inl h4)))
        · rw [txt_else h1 h2 h3 h4] at h
          unfold isL at h
          simp at h
          omega

/-- appendDatum answers as it should at node a. -/
def DatumOk (l : List Dm) (a : Nat) : Prop := ∀ (b B : Nat) (v : Value) (t : List UInt8) (w : World), B ≤ w.heap.size → b < B → DatAt w b l → BytesAt w B v t → t.length + 2200000 * (l.length - a) ≤ 900000000 →
  Calls Tryz.prog 155 #[v, slV b l, .int .i64 (a : Int)] w fun e w' => ∃ (v' : Value) (e' : Nat), e = .returned (.tuple #[v', .int .i64 (e' : Int)]) ∧ IsNx l (a : Int) e' ∧ (TX l a).length + 10 ≤ 2200000 * (e' - a) ∧ BytesAt w' B v' (t ++ TX l a) ∧ Below B w w'
/-- appendParts answers as it should at the list u, its parts beginning at a. -/
def PartsOk (l : List Dm) (u : Int) (a : Nat) : Prop := ∀ (b B : Nat) (v : Value) (t : List UInt8) (w : World), B ≤ w.heap.size → b < B → DatAt w b l → BytesAt w B v t → t.length + 10 + 2200000 * (l.length - a) ≤ 900000000 →
  Calls Tryz.prog 99 #[v, slV b l, .int .i64 (a : Int), .int .i64 u] w fun e w' => ∃ (v' : Value) (e' : Nat), e = .returned (.tuple #[v', .int .i64 (e' : Int)]) ∧ IsNx l u e' ∧ (jnK l (TX l) l.length u).length ≤ 2200000 * (e' - a) ∧ BytesAt w' B v' (t ++ jnK l (TX l) l.length u) ∧ Below B w w'

set_option maxHeartbeats 4000000 in
set_option maxRecDepth 100000 in
theorem parts_of {l : List Dm} (hF : Fine l) (u : Int) (a0 : Nat) (ha0 : (a0 : Int) = u + 1) (hl0 : a0 ≤ l.length) (ih : ∀ a, a0 ≤ a → a < l.length → DatumOk l a) : PartsOk l u a0 := by
  intro b B v t w hB hb hD hv hlen
  have HF := hideT' hF
  have HI := hideT' ih
  have HD := hideT' hD
  have hn3 := hF.few
  obtain ⟨i0, hi, hz0, hz1, hz2⟩ := info_parts info_u8
  have hP0 := hideT' (AtPart.start hF.up ha0 hl0)
  have hj0 : Hid (jnK l (TX l) a0 u = []) := by unfold Hid jnK; rw [kid_low l u a0 (by omega)]; rfl
  have hblt : b < w.heap.size := by omega
  have HA0 := hideT' ha0
  clear hF ih hD ha0
  go_enter Tryz.func99, Tryz.ntmps99
  go_wp2_with fail
  go_loopg [0, 2] (l.length - a0) (fun g x i wr => ∃ (a : Nat) (T : List UInt8), g = l.length - a ∧ i = .int .i64 (a : Int) ∧ a0 ≤ a ∧ Hid (AtPart l u a) ∧ Hid (T = t ++ jnK l (TX l) a u) ∧ Hid (T.length ≤ t.length + 2200000 * (a - a0)) ∧ BytesAt wr B x T ∧ Below B w wr)
  case atStart =>
    refine ⟨a0, t, rfl, rfl, Nat.le_refl _, hP0, ?_, ?_, hv, Below.refl _ _⟩
    · unfold Hid; rw [hj0.out, List.append_nil]
    · unfold Hid; omega
  case round =>
    obtain ⟨a, T, hg, rfl, haa, HP, HTE, HTL, hx, hW⟩ := hrel
    clear hv hP0 hj0
    have hWs := hW.size
    have hal := HP.out.hi
    have hDr : DatAt wr b l := RowAt.below HD.out hW hb
    have DONE : Hid ((a < l.length → du l a ≠ u) → IsNx l u a ∧ (jnK l (TX l) l.length u).length ≤ 2200000 * (a - a0) ∧ T = t ++ jnK l (TX l) l.length u) := fun hne => by
      obtain ⟨h1, h2⟩ := HP.out.done HF.out.up hne
      have h3 : jnK l (TX l) l.length u = jnK l (TX l) a u := by unfold jnK; rw [h2]
      refine ⟨h1, ?_, by rw [h3]; exact HTE.out⟩
      have h4 := HTL.out
      rw [HTE.out, List.length_append] at h4
      rw [h3]; omega
    by_cases hlt : (a : Int) < (l.length : Int)
    · have ha' : a < l.length := by omega
      have hcu := dat_u hDr ha'
      obtain ⟨y, hy⟩ : ∃ y, y = du l a := ⟨_, rfl⟩
      rw [← hy] at hcu
      have HY := hideT' hy
      clear hy
      by_cases hyu : y = u
      · subst hyu
        have HUR : Hid (-1 ≤ du l a ∧ du l a < (a : Int)) := HF.out.up.up l.length (Nat.le_refl _) a ha'
        have HBE := hideT' (beh_eq HF.out.up HF.out.dot HP.out ha' HY.out.symm)
        have HSP := hideT' HP.out.some
        have STEP : Hid (∀ e, IsNx l (a : Int) e → AtPart l y e ∧ jnK l (TX l) e y = jnK l (TX l) a y ++ ((if 0 < (kid l a y).length then [32] else []) ++ ((if behB l a then [46, 32] else []) ++ TX l a))) := fun e he => by
          obtain ⟨h1, h2⟩ := HP.out.step HF.out.up ha' HY.out.symm he
          exact ⟨h1, by rw [jnK_snoc (TX l) h2, HBE.out]⟩
        have HTB : Hid (T.length + 10 + 2200000 * (l.length - a) ≤ 900000000) := by
          have := HTL.out
          unfold Hid; omega
        by_cases hsep : (a0 : Int) < (a : Int)
        · go_wp2_with (first | (at_builtin; refine wpList_append_own _ rfl _ _ 22 rfl B 5 i0 (.int .u8 0) 1 1 Tryz.underlying22 hi hz0 hz1 hz2 rfl (by decide) _ _ _ rfl (hx.alloc _) ⟨wr.heap.size, 0, none⟩ 1 1 [.int .u8 32] rfl rfl (cell_one_new _ _ _) (one_byte _) (by have := HTB.out; unfold maxLen; omega) (by have := HTB.out; omega) (by simp; omega) ?_; intro v1 w1 hv1 hg1 _))
          have hW1 : Below B w w1 := (hW.alloc (by omega) _).grown hg1 (by simp; omega) (fun k hk => own_ge hx hk)
          have hx1 : BytesAt w1 B v1 (T ++ [32]) := by unfold BytesAt; rw [← bytes_snoc, List.length_append]; exact hv1
          have hs1 := hW1.size
          refine (behindDot_any b l a _ w1 rfl ha' hn3 (RowAt.below HD.out hW1 hb) HUR.out).mono ?_
          rintro e w' ⟨rfl, rfl⟩
          cases hbd : behB l a with
          | true =>
            have HBD := hideT' hbd
            clear hbd
            go_wp2_with (first | (at_builtin; refine Lib.wpList_append_own_string _ rfl _ _ 22 9 rfl B 5 i0 Tryz.underlying22 Tryz.underlying9 hi hz0 hz1 hz2 _ _ _ rfl hx1 ⟨#[46, 32]⟩ rfl (show (T ++ [32]).length + 2 ≤ maxLen by have := HTB.out; unfold maxLen; (try simp only [List.length_append, List.length_cons, List.length_nil]); omega) (show (T ++ [32]).length + 2 ≤ _ by have := HTB.out; (try simp only [List.length_append, List.length_cons, List.length_nil]); omega) (by omega) ?_; intro v2 w2 hv2 hg2 _))
            have hW2 : Below B w w2 := hW1.grown hg2 (by omega) (fun k hk => own_ge hx1 hk)
            have hx2 : BytesAt w2 B v2 (T ++ ([32] ++ [46, 32])) := by
              rw [bytes_app] at hv2
              have h3 : T ++ ([32] ++ [46, 32]) = (T ++ [32]) ++ (⟨#[46, 32]⟩ : ByteArray).data.toList := by simp
              unfold BytesAt; rw [h3, List.length_append]; exact hv2
            have hs2 := hW2.size
            refine (HI.out a haa ha' b B v2 (T ++ (([32] : List UInt8) ++ ([46, 32] : List UInt8))) w2 (by omega) hb (RowAt.below HD.out hW2 hb) hx2 (by have := HTB.out; have h0 : (T ++ (([32] : List UInt8) ++ ([46, 32] : List UInt8))).length = T.length + 3 := (by simp); omega)).mono ?_
            rintro e w4 ⟨v4, e4, rfl, hNx, hL4, hv4, hW4⟩
            obtain ⟨hPn, hJn⟩ := STEP.out e4 hNx
            have HPN := hideT' hPn
            have HJN := hideT' hJn
            have hNlo := hNx.lo
            have hNhi := hNx.hi
            have HL4 := hideT' hL4
            clear hPn hJn hNx hL4
            go_wp2
            go_roundg (l.length - e4)
            case measure => omega
            case rel =>
              refine ⟨e4, T ++ (([32] : List UInt8) ++ ([46, 32] : List UInt8)) ++ TX l a, rfl, rfl, by omega, HPN, ?_, ?_, hv4, hW2.trans hW4⟩
              · unfold Hid; rw [HJN.out, HTE.out, if_pos (HSP.out.2 (by have := HA0.out; omega)), if_pos (by exact HBD.out)]; simp only [List.append_assoc]
              · unfold Hid; have h1 := HTL.out; have h2 := HL4.out; simp only [List.length_append]; simp only [List.length_cons, List.length_nil]; omega
          | false =>
            have HBD := hideT' hbd
            clear hbd
            go_wp2_with fail
            have hW2 := hW1
            have hx2 := hx1
            rw [show T ++ [32] = T ++ (([32] : List UInt8) ++ []) by simp] at hx2
            have hs2 := hW2.size
            refine (HI.out a haa ha' b B _ (T ++ (([32] : List UInt8) ++ ([] : List UInt8))) w' (by omega) hb (RowAt.below HD.out hW2 hb) hx2 (by have := HTB.out; have h0 : (T ++ (([32] : List UInt8) ++ ([] : List UInt8))).length = T.length + 1 := (by simp); omega)).mono ?_
            rintro e w4 ⟨v4, e4, rfl, hNx, hL4, hv4, hW4⟩
            obtain ⟨hPn, hJn⟩ := STEP.out e4 hNx
            have HPN := hideT' hPn
            have HJN := hideT' hJn
            have hNlo := hNx.lo
            have hNhi := hNx.hi
            have HL4 := hideT' hL4
            clear hPn hJn hNx hL4
            go_wp2
            go_roundg (l.length - e4)
            case measure => omega
            case rel =>
              refine ⟨e4, T ++ (([32] : List UInt8) ++ ([] : List UInt8)) ++ TX l a, rfl, rfl, by omega, HPN, ?_, ?_, hv4, hW2.trans hW4⟩
              · unfold Hid; rw [HJN.out, HTE.out, if_pos (HSP.out.2 (by have := HA0.out; omega)), if_neg (by rw [HBD.out]; decide)]; simp only [List.append_assoc]
              · unfold Hid; have h1 := HTL.out; have h2 := HL4.out; simp only [List.length_append]; simp only [List.length_cons, List.length_nil]; omega
        · have hsep' : ¬ (a0 : Int) < (a : Int) := hsep
          go_wp2_with fail
          have hs1 := hW.size
          refine (behindDot_any b l a _ wr rfl ha' hn3 (RowAt.below HD.out hW hb) HUR.out).mono ?_
          rintro e w' ⟨rfl, rfl⟩
          cases hbd : behB l a with
          | true =>
            have HBD := hideT' hbd
            clear hbd
            go_wp2_with (first | (at_builtin; refine Lib.wpList_append_own_string _ rfl _ _ 22 9 rfl B 5 i0 Tryz.underlying22 Tryz.underlying9 hi hz0 hz1 hz2 _ _ _ rfl hx ⟨#[46, 32]⟩ rfl (show T.length + 2 ≤ maxLen by have := HTB.out; unfold maxLen; (try simp only [List.length_append, List.length_cons, List.length_nil]); omega) (show T.length + 2 ≤ _ by have := HTB.out; (try simp only [List.length_append, List.length_cons, List.length_nil]); omega) (by omega) ?_; intro v2 w2 hv2 hg2 _))
            have hW2 : Below B w w2 := hW.grown hg2 (by omega) (fun k hk => own_ge hx hk)
            have hx2 : BytesAt w2 B v2 (T ++ ([] ++ [46, 32])) := by
              rw [bytes_app] at hv2
              have h3 : T ++ ([] ++ [46, 32]) = T ++ (⟨#[46, 32]⟩ : ByteArray).data.toList := by simp
              unfold BytesAt; rw [h3, List.length_append]; exact hv2
            have hs2 := hW2.size
            refine (HI.out a haa ha' b B v2 (T ++ (([] : List UInt8) ++ ([46, 32] : List UInt8))) w2 (by omega) hb (RowAt.below HD.out hW2 hb) hx2 (by have := HTB.out; have h0 : (T ++ (([] : List UInt8) ++ ([46, 32] : List UInt8))).length = T.length + 2 := (by simp); omega)).mono ?_
            rintro e w4 ⟨v4, e4, rfl, hNx, hL4, hv4, hW4⟩
            obtain ⟨hPn, hJn⟩ := STEP.out e4 hNx
            have HPN := hideT' hPn
            have HJN := hideT' hJn
            have hNlo := hNx.lo
            have hNhi := hNx.hi
            have HL4 := hideT' hL4
            clear hPn hJn hNx hL4
            go_wp2
            go_roundg (l.length - e4)
            case measure => omega
            case rel =>
              refine ⟨e4, T ++ (([] : List UInt8) ++ ([46, 32] : List UInt8)) ++ TX l a, rfl, rfl, by omega, HPN, ?_, ?_, hv4, hW2.trans hW4⟩
              · unfold Hid; rw [HJN.out, HTE.out, if_neg (fun h => absurd (HSP.out.1 h) (by have := HA0.out; omega)), if_pos (by exact HBD.out)]; simp only [List.append_assoc]
              · unfold Hid; have h1 := HTL.out; have h2 := HL4.out; simp only [List.length_append]; simp only [List.length_cons, List.length_nil]; omega
          | false =>
            have HBD := hideT' hbd
            clear hbd
            go_wp2_with fail
            have hW2 := hW
            have hx2 := hx
            rw [show T = T ++ (([] : List UInt8) ++ []) by simp] at hx2
            have hs2 := hW2.size
            refine (HI.out a haa ha' b B _ (T ++ (([] : List UInt8) ++ ([] : List UInt8))) w' (by omega) hb (RowAt.below HD.out hW2 hb) hx2 (by have := HTB.out; have h0 : (T ++ (([] : List UInt8) ++ ([] : List UInt8))).length = T.length + 0 := (by simp); omega)).mono ?_
            rintro e w4 ⟨v4, e4, rfl, hNx, hL4, hv4, hW4⟩
            obtain ⟨hPn, hJn⟩ := STEP.out e4 hNx
            have HPN := hideT' hPn
            have HJN := hideT' hJn
            have hNlo := hNx.lo
            have hNhi := hNx.hi
            have HL4 := hideT' hL4
            clear hPn hJn hNx hL4
            go_wp2
            go_roundg (l.length - e4)
            case measure => omega
            case rel =>
              refine ⟨e4, T ++ (([] : List UInt8) ++ ([] : List UInt8)) ++ TX l a, rfl, rfl, by omega, HPN, ?_, ?_, hv4, hW2.trans hW4⟩
              · unfold Hid; rw [HJN.out, HTE.out, if_neg (fun h => absurd (HSP.out.1 h) (by have := HA0.out; omega)), if_neg (by rw [HBD.out]; decide)]; simp only [List.append_assoc]
              · unfold Hid; have h1 := HTL.out; have h2 := HL4.out; simp only [List.length_append]; simp only [List.length_nil]; omega
      · have hyu' : (y == u) = false := beq_eq_false_iff_ne.2 hyu
        have HDN := hideT' (DONE.out (fun _ => by rw [← HY.out]; exact hyu))
        clear hyu
        go_wp2
        go_ret2
        exact ⟨_, a, rfl, HDN.out.1, HDN.out.2.1, by rw [← HDN.out.2.2]; exact hx, hW⟩
    · have HDN := hideT' (DONE.out (fun h => by omega))
      go_wp2
      go_ret2
      exact ⟨_, a, rfl, HDN.out.1, HDN.out.2.1, by rw [← HDN.out.2.2]; exact hx, hW⟩
end Go.Proofs.YtehjejjkfeljmaaGreatDoor
