/-
  A drawn region at whose end two calls, the second of the first's answer, and one new variable come up in any order (x := f(g(..), ..)): written by gen/twoone.py.
-/
import Derived.Test.YtmfpnbmfcoahbaaGreatDoorTwoTwo
namespace Go.Proofs.YtmfpnbmfcoahbaaGreatDoor
open Go.RowKit
set_option linter.unusedVariables false

theorem put_eq2 (a : Act) (i : Nat) (v : Value) (h : i < a.tmps.size) : (a.put (some i) v).eval (.tmp i) = v := by
  simp [Act.put, Act.eval, Array.getD_eq_getD_getElem?, h]
theorem put_size2 (a : Act) (i : Nat) (v : Value) : (a.put (some i) v).tmps.size = a.tmps.size := by simp [Act.put]

set_option maxHeartbeats 1000000 in
theorem calls_two_one {ops : Array Oper} {Q : Exit → Act → World → Prop} {md : Region.Mode} {S : World → Prop} {fuel : Nat} {listed : Array Bool} {a : Act} {w : World} (i1 i2 ia : Nat) (d1 d2 da : Tmp) (o1 o2 oa : Oper) (T : TypeId) (zero : Array Value) (f1 f2 : FuncId) (p1 q1 q2 : Nat) (u1 t1 t2 : Value) {ts1 ts2 : Array TypeId} (R1 : Value → Prop) (R2 : Value → Value → Prop)
    (hi1 : ops[i1]? = some o1) (hi2 : ops[i2]? = some o2) (hia : ops[ia]? = some oa) (hd1 : o1.dst = some d1) (hd2 : o2.dst = some d2) (hda : oa.dst = some da)
    (g1 : ∀ ts, Region.wanted o1 ts = true) (g2 : ∀ ts, Region.wanted o2 ts = true) (ga : ∀ ts, Region.wanted oa ts = true)
    (hf1 : ∀ args w, (callFunc f1 args).run Tryz.prog w = .ok (.enter f1 args) w) (hf2 : ∀ args w, (callFunc f2 args).run Tryz.prog w = .ok (.enter f2 args) w) (ho1 : o1.op = .call { callee := .value (.func f1), args := #[.tmp p1, .tmp q1], argTypes := ts1 }) (ho2 : o2.op = .call { callee := .value (.func f2), args := #[.tmp d1, .tmp q2], argTypes := ts2 }) (hoa : oa.op = .alloc T)
    (hp1 : a.eval (.tmp p1) = u1) (hq1 : a.eval (.tmp q1) = t1) (hq2 : a.eval (.tmp q2) = t2) (hsz : d1 < a.tmps.size)
    (hdn : ∀ d, d = d1 ∨ d = d2 ∨ d = da → d ≠ p1 ∧ d ≠ q1 ∧ d ≠ q2) (nc1c2 : i1 ≠ i2) (nc1x : i1 ≠ ia) (nc2x : i2 ≠ ia) (ec1c2 : d1 ≠ d2) (ec1x : d1 ≠ da) (ec2x : d2 ≠ da)
    (rs101 : Region.ready md ops ((listed.setIfInBounds i1 true).setIfInBounds ia true) = [i2])
    (rs110 : Region.ready md ops ((listed.setIfInBounds i1 true).setIfInBounds i2 true) = [ia])
    (rs001 : Region.ready md ops (listed.setIfInBounds ia true) = [i1])
    (rs100 : Region.ready md ops (listed.setIfInBounds i1 true) = [i2, ia])
    (rs000 : Region.ready md ops listed = [i1, ia])
    (hz : ∀ w, (zeroValue T).run Tryz.prog w = .ok (.agg zero) w) (hS : ∀ w', Below w.heap.size w w' → S w')
    (hc1 : ∀ w', Below w.heap.size w w' → Calls Tryz.prog f1 #[u1, t1] w' fun e w'' => ∃ v, e = .returned v ∧ R1 v ∧ Below w'.heap.size w' w'') (hc2 : ∀ v1 w', R1 v1 → Below w.heap.size w w' → Calls Tryz.prog f2 #[v1, t2] w' fun e w'' => ∃ v, e = .returned v ∧ R2 v1 v ∧ Below w'.heap.size w' w'')
    (hfin : ∀ (v1 : Value) (v2 : Value) (px : Nat) (w' : World), Below w.heap.size w w' → R1 v1 → R2 v1 v2 → RowAt w' px T zero → w.heap.size ≤ px → wpAnyH Tryz.prog md ops Q S fuel (((listed.setIfInBounds i1 true).setIfInBounds i2 true).setIfInBounds ia true) (((a.put (some d1) (v1)).put (some d2) (v2)).put (some da) (.pointer (some ⟨px, 0, none⟩))) w') :
    wpAnyH Tryz.prog md ops Q S (fuel + 3) listed a w := by
  have s111 : ∀ (v1 : Value) (v2 : Value) (px : Nat) (w' : World), Below w.heap.size w w' → R1 v1 → R2 v1 v2 → RowAt w' px T zero → w.heap.size ≤ px → wpAnyH Tryz.prog md ops Q S fuel (((listed.setIfInBounds i1 true).setIfInBounds i2 true).setIfInBounds ia true) (((a.put (some d1) (v1)).put (some d2) (v2)).put (some da) (.pointer (some ⟨px, 0, none⟩))) w' := by
    exact hfin
  have s101 : ∀ (v1 : Value) (px : Nat) (w' : World), Below w.heap.size w w' → R1 v1 → RowAt w' px T zero → w.heap.size ≤ px → wpAnyH Tryz.prog md ops Q S (fuel + 1) ((listed.setIfInBounds i1 true).setIfInBounds ia true) ((a.put (some d1) (v1)).put (some da) (.pointer (some ⟨px, 0, none⟩))) w' := by
    intro v1 px w' hB h1 hx hxb
    have hws := hB.size
    have hxl := RowAt.lt hx
    refine wpAnyH_ready rs101 (by simp) ?_
    refine ready_call2 i2 (some d2) hi2 (g2 _) hd2 f2 #[v1, t2] (run_call_2 hf2 ho2 (by rw [put_ne2 _ _ _ _ (Ne.symm ec1x), put_eq2 _ _ _ hsz]) (by rw [put_ne2 _ _ _ _ (hdn da (by simp)).2.2, put_ne2 _ _ _ _ (hdn d1 (by simp)).2.2, hq2])) _ (hc2 v1 w' h1 hB) ?_ ?_
    · rintro e w2 ⟨v, rfl, hv, hW⟩
      have hB2 := hB.trans (hW.mono hws)
      refine ⟨v, rfl, hS _ hB2, ?_⟩
      rw [Array.setIfInBounds_comm (xs := _) true true (Ne.symm nc2x), put_comm2 _ da d2 _ _ (Ne.symm ec2x)]
      exact s111 v1 v px w2 hB2 h1 hv (RowAt.below hx hW hxl) hxb
    exact AllReadyH.nil
  have s110 : ∀ (v1 : Value) (v2 : Value) (w' : World), Below w.heap.size w w' → R1 v1 → R2 v1 v2 → wpAnyH Tryz.prog md ops Q S (fuel + 1) ((listed.setIfInBounds i1 true).setIfInBounds i2 true) ((a.put (some d1) (v1)).put (some d2) (v2)) w' := by
    intro v1 v2 w' hB h1 h2
    have hws := hB.size
    refine wpAnyH_ready rs110 (by simp) ?_
    refine ready_val2 ia (some da) hia (ga _) hda (.pointer (some ⟨w'.heap.size, 0, none⟩)) (w'.alloc (.cells zero T)) (run_alloc1 hoa hz) (hS _ (hB.alloc hws _)) ?_ ?_
    · exact s111 v1 v2 w'.heap.size (w'.alloc (.cells zero T)) (hB.alloc hws _) h1 h2 (RowAt.new w' T zero) hws
    exact AllReadyH.nil
  have s001 : ∀ (px : Nat) (w' : World), Below w.heap.size w w' → RowAt w' px T zero → w.heap.size ≤ px → wpAnyH Tryz.prog md ops Q S (fuel + 2) (listed.setIfInBounds ia true) (a.put (some da) (.pointer (some ⟨px, 0, none⟩))) w' := by
    intro px w' hB hx hxb
    have hws := hB.size
    have hxl := RowAt.lt hx
    refine wpAnyH_ready rs001 (by simp) ?_
    refine ready_call2 i1 (some d1) hi1 (g1 _) hd1 f1 #[u1, t1] (run_call_2 hf1 ho1 (by rw [put_ne2 _ _ _ _ (hdn da (by simp)).1, hp1]) (by rw [put_ne2 _ _ _ _ (hdn da (by simp)).2.1, hq1])) _ (hc1 w' hB) ?_ ?_
    · rintro e w2 ⟨v, rfl, hv, hW⟩
      have hB2 := hB.trans (hW.mono hws)
      refine ⟨v, rfl, hS _ hB2, ?_⟩
      rw [Array.setIfInBounds_comm (xs := _) true true (Ne.symm nc1x), put_comm2 _ da d1 _ _ (Ne.symm ec1x)]
      exact s101 v px w2 hB2 hv (RowAt.below hx hW hxl) hxb
    exact AllReadyH.nil
  have s100 : ∀ (v1 : Value) (w' : World), Below w.heap.size w w' → R1 v1 → wpAnyH Tryz.prog md ops Q S (fuel + 2) (listed.setIfInBounds i1 true) (a.put (some d1) (v1)) w' := by
    intro v1 w' hB h1
    have hws := hB.size
    refine wpAnyH_ready rs100 (by simp) ?_
    refine ready_call2 i2 (some d2) hi2 (g2 _) hd2 f2 #[v1, t2] (run_call_2 hf2 ho2 (by rw [put_eq2 _ _ _ hsz]) (by rw [put_ne2 _ _ _ _ (hdn d1 (by simp)).2.2, hq2])) _ (hc2 v1 w' h1 hB) ?_ ?_
    · rintro e w2 ⟨v, rfl, hv, hW⟩
      have hB2 := hB.trans (hW.mono hws)
      refine ⟨v, rfl, hS _ hB2, ?_⟩
      exact s110 v1 v w2 hB2 h1 hv
    refine ready_val2 ia (some da) hia (ga _) hda (.pointer (some ⟨w'.heap.size, 0, none⟩)) (w'.alloc (.cells zero T)) (run_alloc1 hoa hz) (hS _ (hB.alloc hws _)) ?_ ?_
    · exact s101 v1 w'.heap.size (w'.alloc (.cells zero T)) (hB.alloc hws _) h1 (RowAt.new w' T zero) hws
    exact AllReadyH.nil
  have s000 : ∀  (w' : World), Below w.heap.size w w' → wpAnyH Tryz.prog md ops Q S (fuel + 3) listed a w' := by
    intro  w' hB
    have hws := hB.size
    refine wpAnyH_ready rs000 (by simp) ?_
    refine ready_call2 i1 (some d1) hi1 (g1 _) hd1 f1 #[u1, t1] (run_call_2 hf1 ho1 (by rw [hp1]) (by rw [hq1])) _ (hc1 w' hB) ?_ ?_
    · rintro e w2 ⟨v, rfl, hv, hW⟩
      have hB2 := hB.trans (hW.mono hws)
      refine ⟨v, rfl, hS _ hB2, ?_⟩
      exact s100 v w2 hB2 hv
    refine ready_val2 ia (some da) hia (ga _) hda (.pointer (some ⟨w'.heap.size, 0, none⟩)) (w'.alloc (.cells zero T)) (run_alloc1 hoa hz) (hS _ (hB.alloc hws _)) ?_ ?_
    · exact s001 w'.heap.size (w'.alloc (.cells zero T)) (hB.alloc hws _) (RowAt.new w' T zero) hws
    exact AllReadyH.nil
  exact s000 w (Below.refl _ _)
end Go.Proofs.YtmfpnbmfcoahbaaGreatDoor
