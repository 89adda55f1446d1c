/-
  A drawn region at whose end two calls, the second behind the first, and two new variables come up in any order (x, y := f(..), g(..)): written by gen/twotwo.py.
-/
import Derived.Test.YtmfpnbmfcoahbaaGreatDoorBaseRow
import Derived.Test.YtmfpnbmfcoahbaaGreatDoorBaseHeld
namespace Go.Proofs.YtmfpnbmfcoahbaaGreatDoor
open Go.RowKit
set_option linter.unusedVariables false

/-- One of the operations that may come up, a call. -/
theorem ready_call2 {ops : Array Oper} {Q : Exit → Act → World → Prop} {md : Region.Mode} {S : World → Prop} {o : Oper} {fuel : Nat} {listed : Array Bool} {a : Act} {w : World} {rs : List Nat} (i : Nat) (d : Option Tmp) (hi : ops[i]? = some o) (hw : Region.wanted o (yielded ops a.tmps) = true) (hd : o.dst = d) (f : FuncId) (args : Array Value)
    (he : (execOp a.eval o).run Tryz.prog w = .ok (.enter f args) w) (R : Ending → World → Prop) (hc : Calls Tryz.prog f args w R)
    (h : ∀ e w', R e w' → ∃ v, e = .returned v ∧ S w' ∧ wpAnyH Tryz.prog md ops Q S fuel (listed.setIfInBounds i true) (a.put d v) w') (hs : AllReadyH Tryz.prog md ops Q S fuel listed a w rs) : AllReadyH Tryz.prog md ops Q S fuel listed a w (i :: rs) := by
  subst hd
  refine AllReadyH.cons hi (fun K hK => ?_) hs
  rw [if_pos hw]
  unfold Oper.wp
  rw [he]
  simp only [Oper.upon]
  refine hc.mono ?_
  intro e w' hR
  obtain ⟨v, rfl, hS, hn⟩ := h e w' hR
  exact hK.out _ _ hS (fun _ => hn)
/-- One of the operations that may come up gives a value and changes the world. -/
theorem ready_val2 {ops : Array Oper} {Q : Exit → Act → World → Prop} {md : Region.Mode} {S : World → Prop} {o : Oper} {fuel : Nat} {listed : Array Bool} {a : Act} {w : World} {rs : List Nat} (i : Nat) (d : Option Tmp) (hi : ops[i]? = some o) (hw : Region.wanted o (yielded ops a.tmps) = true) (hd : o.dst = d) (v : Value) (w' : World)
    (he : (execOp a.eval o).run Tryz.prog w = .ok (.value v) w') (hS : S w') (h : wpAnyH Tryz.prog md ops Q S fuel (listed.setIfInBounds i true) (a.put d v) w') (hs : AllReadyH Tryz.prog md ops Q S fuel listed a w rs) : AllReadyH Tryz.prog md ops Q S fuel listed a w (i :: rs) := by
  subst hd
  refine AllReadyH.cons hi (fun K hK => ?_) hs
  rw [if_pos hw]
  unfold Oper.wp
  rw [he]
  exact hK.out _ _ hS (fun _ => h)
theorem put_comm2 (a : Act) (i j : Nat) (u v : Value) (h : i ≠ j) : (a.put (some i) u).put (some j) v = (a.put (some j) v).put (some i) u := by
  simp only [Act.put]
  congr 1
  exact Array.setIfInBounds_comm u v h
theorem put_ne2 (a : Act) (i j : Nat) (v : Value) (h : i ≠ j) : (a.put (some i) v).eval (.tmp j) = a.eval (.tmp j) := by
  simp [Act.put, Act.eval, Array.getD_eq_getD_getElem?, Array.getElem?_setIfInBounds_ne h]
theorem run_call_2 {o : Oper} {a : Act} {w : World} {f : FuncId} {x y : Operand} {u v : Value} {ts : Array TypeId} (hcf : ∀ args w, (callFunc f args).run Tryz.prog w = .ok (.enter f args) w) (ho : o.op = .call { callee := .value (.func f), args := #[x, y], argTypes := ts }) (hx : a.eval x = u) (hy : a.eval y = v) :
    (execOp a.eval o).run Tryz.prog w = .ok (.enter f #[u, v]) w := by
  subst hx hy
  unfold execOp
  simp only [ho]
  go_simp
theorem run_alloc1 {o : Oper} {a : Act} {w : World} {T : TypeId} {zero : Array Value} (ho : o.op = .alloc T) (hz : ∀ w, (zeroValue T).run Tryz.prog w = .ok (.agg zero) w) :
    (execOp a.eval o).run Tryz.prog w = .ok (.value (.pointer (some ⟨w.heap.size, 0, none⟩))) (w.alloc (.cells zero T)) := by
  unfold execOp
  simp only [ho]
  go_simp

set_option maxHeartbeats 1000000 in
theorem two_two {ops : Array Oper} {Q : Exit → Act → World → Prop} {md : Region.Mode} {S : World → Prop} {fuel : Nat} {listed : Array Bool} {a : Act} {w : World} (i1 i2 ia ib : Nat) (d1 d2 da db : Tmp) (o1 o2 oa ob : Oper) (T : TypeId) (zero : Array Value) (f1 f2 : FuncId) (p1 q1 p2 q2 : Nat) (u1 t1 u2 t2 : Value) {ts1 ts2 : Array TypeId} (R1 R2 : Value → Prop)
    (hi1 : ops[i1]? = some o1) (hi2 : ops[i2]? = some o2) (hia : ops[ia]? = some oa) (hib : ops[ib]? = some ob) (hd1 : o1.dst = some d1) (hd2 : o2.dst = some d2) (hda : oa.dst = some da) (hdb : ob.dst = some db)
    (g1 : ∀ ts, Region.wanted o1 ts = true) (g2 : ∀ ts, Region.wanted o2 ts = true) (ga : ∀ ts, Region.wanted oa ts = true) (gb : ∀ ts, Region.wanted ob ts = true)
    (hf1 : ∀ args w, (callFunc f1 args).run Tryz.prog w = .ok (.enter f1 args) w) (hf2 : ∀ args w, (callFunc f2 args).run Tryz.prog w = .ok (.enter f2 args) w) (ho1 : o1.op = .call { callee := .value (.func f1), args := #[.tmp p1, .tmp q1], argTypes := ts1 }) (ho2 : o2.op = .call { callee := .value (.func f2), args := #[.tmp p2, .tmp q2], argTypes := ts2 }) (hoa : oa.op = .alloc T) (hob : ob.op = .alloc T)
    (hp1 : a.eval (.tmp p1) = u1) (hq1 : a.eval (.tmp q1) = t1) (hp2 : a.eval (.tmp p2) = u2) (hq2 : a.eval (.tmp q2) = t2)
    (hdn : ∀ d, d = d1 ∨ d = d2 ∨ d = da ∨ d = db → d ≠ p1 ∧ d ≠ q1 ∧ d ≠ p2 ∧ d ≠ q2) (nc1c2 : i1 ≠ i2) (nc1x : i1 ≠ ia) (nc1y : i1 ≠ ib) (nc2x : i2 ≠ ia) (nc2y : i2 ≠ ib) (nxy : ia ≠ ib) (ec1c2 : d1 ≠ d2) (ec1x : d1 ≠ da) (ec1y : d1 ≠ db) (ec2x : d2 ≠ da) (ec2y : d2 ≠ db) (exy : da ≠ db)
    (rs1011 : Region.ready md ops (((listed.setIfInBounds i1 true).setIfInBounds ia true).setIfInBounds ib true) = [i2])
    (rs1110 : Region.ready md ops (((listed.setIfInBounds i1 true).setIfInBounds i2 true).setIfInBounds ia true) = [ib])
    (rs1101 : Region.ready md ops (((listed.setIfInBounds i1 true).setIfInBounds i2 true).setIfInBounds ib true) = [ia])
    (rs0011 : Region.ready md ops ((listed.setIfInBounds ia true).setIfInBounds ib true) = [i1])
    (rs1010 : Region.ready md ops ((listed.setIfInBounds i1 true).setIfInBounds ia true) = [i2, ib])
    (rs1001 : Region.ready md ops ((listed.setIfInBounds i1 true).setIfInBounds ib true) = [i2, ia])
    (rs1100 : Region.ready md ops ((listed.setIfInBounds i1 true).setIfInBounds i2 true) = [ia, ib])
    (rs0010 : Region.ready md ops (listed.setIfInBounds ia true) = [i1, ib])
    (rs0001 : Region.ready md ops (listed.setIfInBounds ib true) = [i1, ia])
    (rs1000 : Region.ready md ops (listed.setIfInBounds i1 true) = [i2, ia, ib])
    (rs0000 : Region.ready md ops listed = [i1, ia, ib])
    (hz : ∀ w, (zeroValue T).run Tryz.prog w = .ok (.agg zero) w) (hS : ∀ w', Below w.heap.size w w' → S w')
    (hc1 : ∀ w', Below w.heap.size w w' → Calls Tryz.prog f1 #[u1, t1] w' fun e w'' => ∃ v, e = .returned v ∧ R1 v ∧ Below w'.heap.size w' w'') (hc2 : ∀ w', Below w.heap.size w w' → Calls Tryz.prog f2 #[u2, t2] w' fun e w'' => ∃ v, e = .returned v ∧ R2 v ∧ Below w'.heap.size w' w'')
    (hfin : ∀ (v1 : Value) (v2 : Value) (px : Nat) (py : Nat) (w' : World), Below w.heap.size w w' → R1 v1 → R2 v2 → RowAt w' px T zero → w.heap.size ≤ px → RowAt w' py T zero → w.heap.size ≤ py → px ≠ py → wpAnyH Tryz.prog md ops Q S fuel ((((listed.setIfInBounds i1 true).setIfInBounds i2 true).setIfInBounds ia true).setIfInBounds ib true) ((((a.put (some d1) (v1)).put (some d2) (v2)).put (some da) (.pointer (some ⟨px, 0, none⟩))).put (some db) (.pointer (some ⟨py, 0, none⟩))) w') :
    wpAnyH Tryz.prog md ops Q S (fuel + 4) listed a w := by
  have s1111 : ∀ (v1 : Value) (v2 : Value) (px : Nat) (py : Nat) (w' : World), Below w.heap.size w w' → R1 v1 → R2 v2 → RowAt w' px T zero → w.heap.size ≤ px → RowAt w' py T zero → w.heap.size ≤ py → px ≠ py → wpAnyH Tryz.prog md ops Q S fuel ((((listed.setIfInBounds i1 true).setIfInBounds i2 true).setIfInBounds ia true).setIfInBounds ib true) ((((a.put (some d1) (v1)).put (some d2) (v2)).put (some da) (.pointer (some ⟨px, 0, none⟩))).put (some db) (.pointer (some ⟨py, 0, none⟩))) w' := by
    exact hfin
  have s1011 : ∀ (v1 : Value) (px : Nat) (py : Nat) (w' : World), Below w.heap.size w w' → R1 v1 → RowAt w' px T zero → w.heap.size ≤ px → RowAt w' py T zero → w.heap.size ≤ py → px ≠ py → wpAnyH Tryz.prog md ops Q S (fuel + 1) (((listed.setIfInBounds i1 true).setIfInBounds ia true).setIfInBounds ib true) (((a.put (some d1) (v1)).put (some da) (.pointer (some ⟨px, 0, none⟩))).put (some db) (.pointer (some ⟨py, 0, none⟩))) w' := by
    intro v1 px py w' hB h1 hx hxb hy hyb hne
    have hsz := hB.size
    have hxl := RowAt.lt hx
    have hyl := RowAt.lt hy
    refine wpAnyH_ready rs1011 (by simp) ?_
    refine ready_call2 i2 (some d2) hi2 (g2 _) hd2 f2 #[u2, t2] (run_call_2 hf2 ho2 (by rw [put_ne2 _ _ _ _ (hdn db (by simp)).2.2.1, put_ne2 _ _ _ _ (hdn da (by simp)).2.2.1, put_ne2 _ _ _ _ (hdn d1 (by simp)).2.2.1, hp2]) (by rw [put_ne2 _ _ _ _ (hdn db (by simp)).2.2.2, put_ne2 _ _ _ _ (hdn da (by simp)).2.2.2, put_ne2 _ _ _ _ (hdn d1 (by simp)).2.2.2, hq2])) _ (hc2 w' hB) ?_ ?_
    · rintro e w2 ⟨v, rfl, hv, hW⟩
      have hB2 := hB.trans (hW.mono hsz)
      refine ⟨v, rfl, hS _ hB2, ?_⟩
      rw [Array.setIfInBounds_comm (xs := _) true true (Ne.symm nc2y), Array.setIfInBounds_comm (xs := _) true true (Ne.symm nc2x), put_comm2 _ db d2 _ _ (Ne.symm ec2y), put_comm2 _ da d2 _ _ (Ne.symm ec2x)]
      exact s1111 v1 v px py w2 hB2 h1 hv (RowAt.below hx hW hxl) hxb (RowAt.below hy hW hyl) hyb hne
    exact AllReadyH.nil
  have s1110 : ∀ (v1 : Value) (v2 : Value) (px : Nat) (w' : World), Below w.heap.size w w' → R1 v1 → R2 v2 → RowAt w' px T zero → w.heap.size ≤ px → wpAnyH Tryz.prog md ops Q S (fuel + 1) (((listed.setIfInBounds i1 true).setIfInBounds i2 true).setIfInBounds ia true) (((a.put (some d1) (v1)).put (some d2) (v2)).put (some da) (.pointer (some ⟨px, 0, none⟩))) w' := by
    intro v1 v2 px w' hB h1 h2 hx hxb
    have hsz := hB.size
    have hxl := RowAt.lt hx
    refine wpAnyH_ready rs1110 (by simp) ?_
    refine ready_val2 ib (some db) hib (gb _) hdb (.pointer (some ⟨w'.heap.size, 0, none⟩)) (w'.alloc (.cells zero T)) (run_alloc1 hob hz) (hS _ (hB.alloc hsz _)) ?_ ?_
    · exact s1111 v1 v2 px w'.heap.size (w'.alloc (.cells zero T)) (hB.alloc hsz _) h1 h2 (RowAt.old hx _) hxb (RowAt.new w' T zero) hsz (by omega)
    exact AllReadyH.nil
  have s1101 : ∀ (v1 : Value) (v2 : Value) (py : Nat) (w' : World), Below w.heap.size w w' → R1 v1 → R2 v2 → RowAt w' py T zero → w.heap.size ≤ py → wpAnyH Tryz.prog md ops Q S (fuel + 1) (((listed.setIfInBounds i1 true).setIfInBounds i2 true).setIfInBounds ib true) (((a.put (some d1) (v1)).put (some d2) (v2)).put (some db) (.pointer (some ⟨py, 0, none⟩))) w' := by
    intro v1 v2 py w' hB h1 h2 hy hyb
    have hsz := hB.size
    have hyl := RowAt.lt hy
    refine wpAnyH_ready rs1101 (by simp) ?_
    refine ready_val2 ia (some da) hia (ga _) hda (.pointer (some ⟨w'.heap.size, 0, none⟩)) (w'.alloc (.cells zero T)) (run_alloc1 hoa hz) (hS _ (hB.alloc hsz _)) ?_ ?_
    · rw [Array.setIfInBounds_comm (xs := _) true true (Ne.symm nxy), put_comm2 _ db da _ _ (Ne.symm exy)]
      exact s1111 v1 v2 w'.heap.size py (w'.alloc (.cells zero T)) (hB.alloc hsz _) h1 h2 (RowAt.new w' T zero) hsz (RowAt.old hy _) hyb (by omega)
    exact AllReadyH.nil
  have s0011 : ∀ (px : Nat) (py : Nat) (w' : World), Below w.heap.size w w' → RowAt w' px T zero → w.heap.size ≤ px → RowAt w' py T zero → w.heap.size ≤ py → px ≠ py → wpAnyH Tryz.prog md ops Q S (fuel + 2) ((listed.setIfInBounds ia true).setIfInBounds ib true) ((a.put (some da) (.pointer (some ⟨px, 0, none⟩))).put (some db) (.pointer (some ⟨py, 0, none⟩))) w' := by
    intro px py w' hB hx hxb hy hyb hne
    have hsz := hB.size
    have hxl := RowAt.lt hx
    have hyl := RowAt.lt hy
    refine wpAnyH_ready rs0011 (by simp) ?_
    refine ready_call2 i1 (some d1) hi1 (g1 _) hd1 f1 #[u1, t1] (run_call_2 hf1 ho1 (by rw [put_ne2 _ _ _ _ (hdn db (by simp)).1, put_ne2 _ _ _ _ (hdn da (by simp)).1, hp1]) (by rw [put_ne2 _ _ _ _ (hdn db (by simp)).2.1, put_ne2 _ _ _ _ (hdn da (by simp)).2.1, hq1])) _ (hc1 w' hB) ?_ ?_
    · rintro e w2 ⟨v, rfl, hv, hW⟩
      have hB2 := hB.trans (hW.mono hsz)
      refine ⟨v, rfl, hS _ hB2, ?_⟩
      rw [Array.setIfInBounds_comm (xs := _) true true (Ne.symm nc1y), Array.setIfInBounds_comm (xs := _) true true (Ne.symm nc1x), put_comm2 _ db d1 _ _ (Ne.symm ec1y), put_comm2 _ da d1 _ _ (Ne.symm ec1x)]
      exact s1011 v px py w2 hB2 hv (RowAt.below hx hW hxl) hxb (RowAt.below hy hW hyl) hyb hne
    exact AllReadyH.nil
  have s1010 : ∀ (v1 : Value) (px : Nat) (w' : World), Below w.heap.size w w' → R1 v1 → RowAt w' px T zero → w.heap.size ≤ px → wpAnyH Tryz.prog md ops Q S (fuel + 2) ((listed.setIfInBounds i1 true).setIfInBounds ia true) ((a.put (some d1) (v1)).put (some da) (.pointer (some ⟨px, 0, none⟩))) w' := by
    intro v1 px w' hB h1 hx hxb
    have hsz := hB.size
    have hxl := RowAt.lt hx
    refine wpAnyH_ready rs1010 (by simp) ?_
    refine ready_call2 i2 (some d2) hi2 (g2 _) hd2 f2 #[u2, t2] (run_call_2 hf2 ho2 (by rw [put_ne2 _ _ _ _ (hdn da (by simp)).2.2.1, put_ne2 _ _ _ _ (hdn d1 (by simp)).2.2.1, hp2]) (by rw [put_ne2 _ _ _ _ (hdn da (by simp)).2.2.2, put_ne2 _ _ _ _ (hdn d1 (by simp)).2.2.2, hq2])) _ (hc2 w' hB) ?_ ?_
    · rintro e w2 ⟨v, rfl, hv, hW⟩
      have hB2 := hB.trans (hW.mono hsz)
      refine ⟨v, rfl, hS _ hB2, ?_⟩
      rw [Array.setIfInBounds_comm (xs := _) true true (Ne.symm nc2x), put_comm2 _ da d2 _ _ (Ne.symm ec2x)]
      exact s1110 v1 v px w2 hB2 h1 hv (RowAt.below hx hW hxl) hxb
    refine ready_val2 ib (some db) hib (gb _) hdb (.pointer (some ⟨w'.heap.size, 0, none⟩)) (w'.alloc (.cells zero T)) (run_alloc1 hob hz) (hS _ (hB.alloc hsz _)) ?_ ?_
    · exact s1011 v1 px w'.heap.size (w'.alloc (.cells zero T)) (hB.alloc hsz _) h1 (RowAt.old hx _) hxb (RowAt.new w' T zero) hsz (by omega)
    exact AllReadyH.nil
  have s1001 : ∀ (v1 : Value) (py : Nat) (w' : World), Below w.heap.size w w' → R1 v1 → RowAt w' py T zero → w.heap.size ≤ py → wpAnyH Tryz.prog md ops Q S (fuel + 2) ((listed.setIfInBounds i1 true).setIfInBounds ib true) ((a.put (some d1) (v1)).put (some db) (.pointer (some ⟨py, 0, none⟩))) w' := by
    intro v1 py w' hB h1 hy hyb
    have hsz := hB.size
    have hyl := RowAt.lt hy
    refine wpAnyH_ready rs1001 (by simp) ?_
    refine ready_call2 i2 (some d2) hi2 (g2 _) hd2 f2 #[u2, t2] (run_call_2 hf2 ho2 (by rw [put_ne2 _ _ _ _ (hdn db (by simp)).2.2.1, put_ne2 _ _ _ _ (hdn d1 (by simp)).2.2.1, hp2]) (by rw [put_ne2 _ _ _ _ (hdn db (by simp)).2.2.2, put_ne2 _ _ _ _ (hdn d1 (by simp)).2.2.2, hq2])) _ (hc2 w' hB) ?_ ?_
    · rintro e w2 ⟨v, rfl, hv, hW⟩
      have hB2 := hB.trans (hW.mono hsz)
      refine ⟨v, rfl, hS _ hB2, ?_⟩
      rw [Array.setIfInBounds_comm (xs := _) true true (Ne.symm nc2y), put_comm2 _ db d2 _ _ (Ne.symm ec2y)]
      exact s1101 v1 v py w2 hB2 h1 hv (RowAt.below hy hW hyl) hyb
    refine ready_val2 ia (some da) hia (ga _) hda (.pointer (some ⟨w'.heap.size, 0, none⟩)) (w'.alloc (.cells zero T)) (run_alloc1 hoa hz) (hS _ (hB.alloc hsz _)) ?_ ?_
    · rw [Array.setIfInBounds_comm (xs := _) true true (Ne.symm nxy), put_comm2 _ db da _ _ (Ne.symm exy)]
      exact s1011 v1 w'.heap.size py (w'.alloc (.cells zero T)) (hB.alloc hsz _) h1 (RowAt.new w' T zero) hsz (RowAt.old hy _) hyb (by omega)
    exact AllReadyH.nil
  have s1100 : ∀ (v1 : Value) (v2 : Value) (w' : World), Below w.heap.size w w' → R1 v1 → R2 v2 → wpAnyH Tryz.prog md ops Q S (fuel + 2) ((listed.setIfInBounds i1 true).setIfInBounds i2 true) ((a.put (some d1) (v1)).put (some d2) (v2)) w' := by
    intro v1 v2 w' hB h1 h2
    have hsz := hB.size
    refine wpAnyH_ready rs1100 (by simp) ?_
    refine ready_val2 ia (some da) hia (ga _) hda (.pointer (some ⟨w'.heap.size, 0, none⟩)) (w'.alloc (.cells zero T)) (run_alloc1 hoa hz) (hS _ (hB.alloc hsz _)) ?_ ?_
    · exact s1110 v1 v2 w'.heap.size (w'.alloc (.cells zero T)) (hB.alloc hsz _) h1 h2 (RowAt.new w' T zero) hsz
    refine ready_val2 ib (some db) hib (gb _) hdb (.pointer (some ⟨w'.heap.size, 0, none⟩)) (w'.alloc (.cells zero T)) (run_alloc1 hob hz) (hS _ (hB.alloc hsz _)) ?_ ?_
    · exact s1101 v1 v2 w'.heap.size (w'.alloc (.cells zero T)) (hB.alloc hsz _) h1 h2 (RowAt.new w' T zero) hsz
    exact AllReadyH.nil
  have s0010 : ∀ (px : Nat) (w' : World), Below w.heap.size w w' → RowAt w' px T zero → w.heap.size ≤ px → wpAnyH Tryz.prog md ops Q S (fuel + 3) (listed.setIfInBounds ia true) (a.put (some da) (.pointer (some ⟨px, 0, none⟩))) w' := by
    intro px w' hB hx hxb
    have hsz := hB.size
    have hxl := RowAt.lt hx
    refine wpAnyH_ready rs0010 (by simp) ?_
    refine ready_call2 i1 (some d1) hi1 (g1 _) hd1 f1 #[u1, t1] (run_call_2 hf1 ho1 (by rw [put_ne2 _ _ _ _ (hdn da (by simp)).1, hp1]) (by rw [put_ne2 _ _ _ _ (hdn da (by simp)).2.1, hq1])) _ (hc1 w' hB) ?_ ?_
    · rintro e w2 ⟨v, rfl, hv, hW⟩
      have hB2 := hB.trans (hW.mono hsz)
      refine ⟨v, rfl, hS _ hB2, ?_⟩
      rw [Array.setIfInBounds_comm (xs := _) true true (Ne.symm nc1x), put_comm2 _ da d1 _ _ (Ne.symm ec1x)]
      exact s1010 v px w2 hB2 hv (RowAt.below hx hW hxl) hxb
    refine ready_val2 ib (some db) hib (gb _) hdb (.pointer (some ⟨w'.heap.size, 0, none⟩)) (w'.alloc (.cells zero T)) (run_alloc1 hob hz) (hS _ (hB.alloc hsz _)) ?_ ?_
    · exact s0011 px w'.heap.size (w'.alloc (.cells zero T)) (hB.alloc hsz _) (RowAt.old hx _) hxb (RowAt.new w' T zero) hsz (by omega)
    exact AllReadyH.nil
  have s0001 : ∀ (py : Nat) (w' : World), Below w.heap.size w w' → RowAt w' py T zero → w.heap.size ≤ py → wpAnyH Tryz.prog md ops Q S (fuel + 3) (listed.setIfInBounds ib true) (a.put (some db) (.pointer (some ⟨py, 0, none⟩))) w' := by
    intro py w' hB hy hyb
    have hsz := hB.size
    have hyl := RowAt.lt hy
    refine wpAnyH_ready rs0001 (by simp) ?_
    refine ready_call2 i1 (some d1) hi1 (g1 _) hd1 f1 #[u1, t1] (run_call_2 hf1 ho1 (by rw [put_ne2 _ _ _ _ (hdn db (by simp)).1, hp1]) (by rw [put_ne2 _ _ _ _ (hdn db (by simp)).2.1, hq1])) _ (hc1 w' hB) ?_ ?_
    · rintro e w2 ⟨v, rfl, hv, hW⟩
      have hB2 := hB.trans (hW.mono hsz)
      refine ⟨v, rfl, hS _ hB2, ?_⟩
      rw [Array.setIfInBounds_comm (xs := _) true true (Ne.symm nc1y), put_comm2 _ db d1 _ _ (Ne.symm ec1y)]
      exact s1001 v py w2 hB2 hv (RowAt.below hy hW hyl) hyb
    refine ready_val2 ia (some da) hia (ga _) hda (.pointer (some ⟨w'.heap.size, 0, none⟩)) (w'.alloc (.cells zero T)) (run_alloc1 hoa hz) (hS _ (hB.alloc hsz _)) ?_ ?_
    · rw [Array.setIfInBounds_comm (xs := _) true true (Ne.symm nxy), put_comm2 _ db da _ _ (Ne.symm exy)]
      exact s0011 w'.heap.size py (w'.alloc (.cells zero T)) (hB.alloc hsz _) (RowAt.new w' T zero) hsz (RowAt.old hy _) hyb (by omega)
    exact AllReadyH.nil
  have s1000 : ∀ (v1 : Value) (w' : World), Below w.heap.size w w' → R1 v1 → wpAnyH Tryz.prog md ops Q S (fuel + 3) (listed.setIfInBounds i1 true) (a.put (some d1) (v1)) w' := by
    intro v1 w' hB h1
    have hsz := hB.size
    refine wpAnyH_ready rs1000 (by simp) ?_
    refine ready_call2 i2 (some d2) hi2 (g2 _) hd2 f2 #[u2, t2] (run_call_2 hf2 ho2 (by rw [put_ne2 _ _ _ _ (hdn d1 (by simp)).2.2.1, hp2]) (by rw [put_ne2 _ _ _ _ (hdn d1 (by simp)).2.2.2, hq2])) _ (hc2 w' hB) ?_ ?_
    · rintro e w2 ⟨v, rfl, hv, hW⟩
      have hB2 := hB.trans (hW.mono hsz)
      refine ⟨v, rfl, hS _ hB2, ?_⟩
      exact s1100 v1 v w2 hB2 h1 hv
    refine ready_val2 ia (some da) hia (ga _) hda (.pointer (some ⟨w'.heap.size, 0, none⟩)) (w'.alloc (.cells zero T)) (run_alloc1 hoa hz) (hS _ (hB.alloc hsz _)) ?_ ?_
    · exact s1010 v1 w'.heap.size (w'.alloc (.cells zero T)) (hB.alloc hsz _) h1 (RowAt.new w' T zero) hsz
    refine ready_val2 ib (some db) hib (gb _) hdb (.pointer (some ⟨w'.heap.size, 0, none⟩)) (w'.alloc (.cells zero T)) (run_alloc1 hob hz) (hS _ (hB.alloc hsz _)) ?_ ?_
    · exact s1001 v1 w'.heap.size (w'.alloc (.cells zero T)) (hB.alloc hsz _) h1 (RowAt.new w' T zero) hsz
    exact AllReadyH.nil
  have s0000 : ∀  (w' : World), Below w.heap.size w w' → wpAnyH Tryz.prog md ops Q S (fuel + 4) listed a w' := by
    intro  w' hB
    have hsz := hB.size
    refine wpAnyH_ready rs0000 (by simp) ?_
    refine ready_call2 i1 (some d1) hi1 (g1 _) hd1 f1 #[u1, t1] (run_call_2 hf1 ho1 (by rw [hp1]) (by rw [hq1])) _ (hc1 w' hB) ?_ ?_
    · rintro e w2 ⟨v, rfl, hv, hW⟩
      have hB2 := hB.trans (hW.mono hsz)
      refine ⟨v, rfl, hS _ hB2, ?_⟩
      exact s1000 v w2 hB2 hv
    refine ready_val2 ia (some da) hia (ga _) hda (.pointer (some ⟨w'.heap.size, 0, none⟩)) (w'.alloc (.cells zero T)) (run_alloc1 hoa hz) (hS _ (hB.alloc hsz _)) ?_ ?_
    · exact s0010 w'.heap.size (w'.alloc (.cells zero T)) (hB.alloc hsz _) (RowAt.new w' T zero) hsz
    refine ready_val2 ib (some db) hib (gb _) hdb (.pointer (some ⟨w'.heap.size, 0, none⟩)) (w'.alloc (.cells zero T)) (run_alloc1 hob hz) (hS _ (hB.alloc hsz _)) ?_ ?_
    · exact s0001 w'.heap.size (w'.alloc (.cells zero T)) (hB.alloc hsz _) (RowAt.new w' T zero) hsz
    exact AllReadyH.nil
  exact s0000 w (Below.refl _ _)
end Go.Proofs.YtmfpnbmfcoahbaaGreatDoor
