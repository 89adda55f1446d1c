/-
  The texts ImplBez, ClassMem, Joined, ImplChN, RecArg, one behind the other, as one.
-/
import Derived.Test.YthbnacikomimfaaDoorTailChineseNatA
import Derived.Test.YthbnacikomimfaaDoorPkDivideA
import Derived.Test.YthbnacikomimfaaDoorImplAdd
import Derived.Test.YthbnacikomimfaaDoorChAns
import Derived.Test.YthbnacikomimfaaDoorRecs
import Derived.Deep.Strs
import Derived.Carry
import Derived.WalkKit
import Derived.ProofKit
import Derived.OpenShut
import Derived.ShutString
import Derived.ChangeOld

/-
  What impl.bezout answers.
-/
namespace Go.Proofs.YthbnacikomimfaaDoor
open Go.RowKit
set_option linter.unusedVariables false

/-- A combination: its parts, and what the two whole ones are worth. -/
structure Cb where
  k : Nat
  p : List Int
  x : Int
  k1 : Nat
  p1 : List Int
  y : Int
  k2 : Nat
  p2 : List Int
def Cb.C (c : Cb) : Array Value := combC c.k c.p (decide (c.x < 0)) c.k1 c.p1 (decide (c.y < 0)) c.k2 c.p2
structure Cb.Ok (c : Cb) (r : Nat) : Prop where
  r : Rep r c.k c.p
  x : Rep c.x.natAbs c.k1 c.p1
  y : Rep c.y.natAbs c.k2 c.p2
def Cb.At (w : World) (b : Nat) (c : Cb) : Prop := RowAt w b 94 c.C
theorem Cb.At.comb {w : World} {b : Nat} {c : Cb} (h : Cb.At w b c) : CombAt w b c.k c.p (decide (c.x < 0)) c.k1 c.p1 (decide (c.y < 0)) c.k2 c.p2 := h
theorem Cb.Ok.size {c : Cb} {r : Nat} (h : c.Ok r) : c.C.size = 617 := comb_len _ _ _ _ _ _ _ _ h.r.len h.x.len h.y.len
theorem Cb.one (c : Cb) : c.C.all (·.oneCell') = true := comb_one _ _ _ _ _ _ _ _
theorem Cb.Ok.info {c : Cb} {r : Nat} (h : c.Ok r) : (Tryd.prog.info? 94).map (·.size) = some c.C.size := by rw [h.size]; exact zero_comb.2
def zC : Array Value := combC 0 zP false 0 zP false 0 zP
theorem zC_size : zC.size = 617 := comb_len _ _ _ _ _ _ _ _ zP_len zP_len zP_len
section
variable {ops : Array Oper} {rest : List Oper} {o : Oper} {a : Act} {w : World} {Q : Exit → Act → World → Prop}
theorem load_cb (hgd : o.guard = none) (x : Operand) (ho : o.op = .load 94 x) (b : Nat) (hx : a.eval x = .pointer (some ⟨b, 0, none⟩)) (c : Cb) (r : Nat) (hN : Cb.At w b c) (hok : c.Ok r)
    (h : wpList Tryd.prog ops Q rest (a.put o.dst (.agg c.C)) w) : wpList Tryd.prog ops Q (o :: rest) a w :=
  wpList_load_row hgd 94 x ho b hx 94 c.C (0, 0) _ hN Tryd.underlying94 rfl hok.info h
theorem store_cb (hgd : o.guard = none) (x y : Operand) (ho : o.op = .store 94 x y) (hd : o.dst = none) (b : Nat) (c : Cb) (r : Nat) (hx : a.eval x = .pointer (some ⟨b, 0, none⟩)) (hy : a.eval y = .agg c.C) (c0 : Array Value) (hN : RowAt w b 94 c0) (h0 : c0.size = 617) (hok : c.Ok r)
    (h : ∀ w', Cb.At w' b c → w.grownBy w' (some b) → w'.heap.size = w.heap.size → wpList Tryd.prog ops Q rest a w') : wpList Tryd.prog ops Q (o :: rest) a w := by
  refine wpList_store_row hgd 94 x y ho b c.C hx hy 94 c0 hN hok.info (by rw [h0, hok.size]) c.one ?_
  rw [hd]
  exact h _ (setRow_heap w b _ _ _ _ hN) ⟨rfl, rfl, rfl, by simp, fun k _ hne => setRow_other w b k _ (by intro e; exact hne (by rw [e]))⟩ (by simp)
end
theorem cb_store_wp {o : Oper} {a : Act} {w : World} {K : Act → World → Prop} {Q : Exit → Act → World → Prop} (x y : Operand) (ho : o.op = .store 94 x y) (hd : o.dst = none) (b : Nat) (c : Cb) (r : Nat) (hx : a.eval x = .pointer (some ⟨b, 0, none⟩)) (hy : a.eval y = .agg c.C) (c0 : Array Value) (hN : RowAt w b 94 c0) (h0 : c0.size = 617) (hok : c.Ok r)
    (h : ∀ w', Cb.At w' b c → w.grownBy w' (some b) → w'.heap.size = w.heap.size → K a w') : o.wp Tryd.prog a w K Q := by
  refine wp_store_row 94 x y ho b c.C hx hy 94 c0 hN hok.info (by rw [h0, hok.size]) c.one ?_
  rw [hd]
  exact h _ (setRow_heap w b _ _ _ _ hN) ⟨rfl, rfl, rfl, by simp, fun k _ hne => setRow_other w b k _ (by intro e; exact hne (by rw [e]))⟩ (by simp)
theorem held_store_cb {ops : Array Oper} {Q : Exit → Act → World → Prop} {md : Region.Mode} {S : World → Prop} {o : Oper} {fuel : Nat} {listed : Array Bool} {a : Act} {w : World} (i : Nat) (hr : Region.ready md ops listed = [i]) (hi : ops[i]? = some o) (hw : Region.wanted o (yielded ops a.tmps) = true) (x y : Operand) (ho : o.op = .store 94 x y) (hd : o.dst = none)
    (b : Nat) (c : Cb) (r : Nat) (hx : a.eval x = .pointer (some ⟨b, 0, none⟩)) (hy : a.eval y = .agg c.C) (c0 : Array Value) (hN : RowAt w b 94 c0) (h0 : c0.size = 617) (hok : c.Ok r)
    (h : ∀ w', Cb.At w' b c → w.grownBy w' (some b) → w'.heap.size = w.heap.size → S w' ∧ wpAnyH Tryd.prog md ops Q S fuel (listed.setIfInBounds i true) a w') : wpAnyH Tryd.prog md ops Q S (fuel + 1) listed a w := by
  refine wpAnyH_ready hr (by simp) (AllReadyH.cons hi (fun K hK => ?_) AllReadyH.nil)
  rw [if_pos hw]
  refine cb_store_wp x y ho hd b c r hx hy c0 hN h0 hok ?_
  intro w' h1 h2 h3
  have := h w' h1 h2 h3
  exact hK.out _ _ this.1 (fun _ => this.2)
theorem late_store_cb {ops : Array Oper} {Q : Exit → Act → World → Prop} {md : Region.Mode} {late : List Nat} {S : World → Prop} {o : Oper} {fuel : Nat} {listed : Array Bool} {a : Act} {w : World} (i : Nat) (hr : Region.ready md ops listed = [i]) (hi : ops[i]? = some o) (hw : Region.wanted o (yielded ops a.tmps) = true) (x y : Operand) (ho : o.op = .store 94 x y) (hd : o.dst = none)
    (b : Nat) (c : Cb) (r : Nat) (hx : a.eval x = .pointer (some ⟨b, 0, none⟩)) (hy : a.eval y = .agg c.C) (c0 : Array Value) (hN : RowAt w b 94 c0) (h0 : c0.size = 617) (hok : c.Ok r)
    (h : ∀ w', Cb.At w' b c → w.grownBy w' (some b) → w'.heap.size = w.heap.size → LateOr late S (listed.setIfInBounds i true) w' ∧ wpAnyL Tryd.prog md ops Q late S fuel (listed.setIfInBounds i true) a w') : wpAnyL Tryd.prog md ops Q late S (fuel + 1) listed a w := by
  refine late_one i hr hi hw fun K hK => ?_
  refine cb_store_wp x y ho hd b c r hx hy c0 hN h0 hok ?_
  intro w' h1 h2 h3
  have := h w' h1 h2 h3
  exact hK.out _ _ this.1 this.2
/-- Building, as an operation. -/
theorem run_build2 {o : Oper} {a : Act} {w : World} (T : TypeId) (i j : Nat) (x y : Operand) (ho : o.op = .build T #[(i, x), (j, y)]) (u v : Value) (hx : a.eval x = u) (hy : a.eval y = v) (c : Array Value) (hb : Tryd.prog.built T [(i, u), (j, v)] = some c) :
    (execOp a.eval o).run Tryd.prog w = .ok (.value (.agg c)) w := by
  have h := run_build (P := Tryd.prog) w T #[(i, u), (j, v)] c hb
  unfold execOp
  simp only [ho, hx, hy, List.map_toArray, List.map_cons, List.map_nil, Sem.run_bind, h, Result.andThen_ok]
  rfl
theorem run_build3 {o : Oper} {a : Act} {w : World} (T : TypeId) (i j k : Nat) (x y z : Operand) (ho : o.op = .build T #[(i, x), (j, y), (k, z)]) (u v t : Value) (hx : a.eval x = u) (hy : a.eval y = v) (hz : a.eval z = t) (c : Array Value) (hb : Tryd.prog.built T [(i, u), (j, v), (k, t)] = some c) :
    (execOp a.eval o).run Tryd.prog w = .ok (.value (.agg c)) w := by
  have h := run_build (P := Tryd.prog) w T #[(i, u), (j, v), (k, t)] c hb
  unfold execOp
  simp only [ho, hx, hy, hz, List.map_toArray, List.map_cons, List.map_nil, Sem.run_bind, h, Result.andThen_ok]
  rfl
theorem many_begin {ops : Array Oper} {Q : Exit → Act → World → Prop} {a : Act} {w : World} {id : Nat} (ps : List (Nat × (World → Prop))) (S : World → Prop) (hm : Tryd.prog.follows .mixedOrders = true) (h : BL.wpAnyM Tryd.prog .any ops (NoPanic Q) ps S ops.size (Array.replicate ops.size false) a w.drew) : (Code.region id ops true).wp Tryd.prog Q a w :=
  wp_region_noPanic (wp_region_any hm (BL.wpAny_of_many _ _ _ _ h))
theorem many_call {ops : Array Oper} {Q : Exit → Act → World → Prop} {md : Region.Mode} {ps : List (Nat × (World → Prop))} {S : World → Prop} {o : Oper} {fuel : Nat} {listed : Array Bool} {a : Act} {w : World} (i : Nat) (d : Option Tmp) (hr : Region.ready md ops listed = [i]) (hi : ops[i]? = some o) (hw : Region.wanted o (yielded ops a.tmps) = true) (hd : o.dst = d) (f : FuncId) (args : Array Value)
    (he : (execOp a.eval o).run Tryd.prog w = .ok (.enter f args) w) (R : Ending → World → Prop) (hc : Calls Tryd.prog f args w R)
    (h : ∀ e w', R e w' → ∃ v, e = .returned v ∧ BL.LateAll ps S (listed.setIfInBounds i true) w' ∧ BL.wpAnyM Tryd.prog md ops Q ps S fuel (listed.setIfInBounds i true) (a.put d v) w') : BL.wpAnyM Tryd.prog md ops Q ps S (fuel + 1) listed a w := by
  subst hd
  refine BL.many_one i hr hi hw fun K hK => ?_
  unfold Oper.wp
  rw [he]
  simp only [Oper.upon]
  refine hc.mono ?_
  intro e w' hR
  obtain ⟨v, rfl, hS, hn⟩ := h e w' hR
  exact hK.out _ _ hS hn
theorem many_store_cb {ops : Array Oper} {Q : Exit → Act → World → Prop} {md : Region.Mode} {ps : List (Nat × (World → Prop))} {S : World → Prop} {o : Oper} {fuel : Nat} {listed : Array Bool} {a : Act} {w : World} (i : Nat) (hr : Region.ready md ops listed = [i]) (hi : ops[i]? = some o) (hw : Region.wanted o (yielded ops a.tmps) = true) (x y : Operand) (ho : o.op = .store 94 x y) (hd : o.dst = none)
    (b : Nat) (c : Cb) (r : Nat) (hx : a.eval x = .pointer (some ⟨b, 0, none⟩)) (hy : a.eval y = .agg c.C) (c0 : Array Value) (hN : RowAt w b 94 c0) (h0 : c0.size = 617) (hok : c.Ok r)
    (h : ∀ w', Cb.At w' b c → w.grownBy w' (some b) → w'.heap.size = w.heap.size → BL.LateAll ps S (listed.setIfInBounds i true) w' ∧ BL.wpAnyM Tryd.prog md ops Q ps S fuel (listed.setIfInBounds i true) a w') : BL.wpAnyM Tryd.prog md ops Q ps S (fuel + 1) listed a w := by
  refine BL.many_one i hr hi hw fun K hK => ?_
  refine cb_store_wp x y ho hd b c r hx hy c0 hN h0 hok ?_
  intro w' h1 h2 h3
  have := h w' h1 h2 h3
  exact hK.out _ _ this.1 this.2
theorem late2 {S f g : World → Prop} {L : Array Bool} {w : World} (h : S w) (h1 : L.getD 17 false = true ∨ f w) (h2 : L.getD 18 false = true ∨ g w) : BL.LateAll [(17, f), (18, g)] S L w := by
  refine ⟨h, fun p hp => ?_⟩
  simp only [List.mem_cons, List.not_mem_nil, or_false] at hp
  rcases hp with rfl | rfl
  · exact h1
  · exact h2
theorem not_late {f g : World → Prop} (i : Nat) (h1 : 17 ≠ i) (h2 : 18 ≠ i) : ∀ p ∈ ([(17, f), (18, g)] : List (Nat × (World → Prop))), p.1 ≠ i := by
  intro p hp
  simp only [List.mem_cons, List.not_mem_nil, or_false] at hp
  rcases hp with rfl | rfl
  · exact h1
  · exact h2
/-- Two new variables, in either order. -/
theorem alloc_two {ops : Array Oper} {Q : Exit → Act → World → Prop} {md : Region.Mode} {S : World → Prop} {fuel : Nat} {listed : Array Bool} {a : Act} {w : World} {T : TypeId} {zero : Array Value} {oi oj : Oper} (i j : Nat) (di dj : Tmp) (hi : ops[i]? = some oi) (hj : ops[j]? = some oj) (hdi : oi.dst = some di) (hdj : oj.dst = some dj) (hoi : oi.op = .alloc T) (hoj : oj.op = .alloc T)
    (gi : ∀ ts, Region.wanted oi ts = true) (gj : ∀ ts, Region.wanted oj ts = true) (hr : Region.ready md ops listed = [i, j]) (hri : Region.ready md ops (listed.setIfInBounds i true) = [j]) (hrj : Region.ready md ops (listed.setIfInBounds j true) = [i]) (hne : i ≠ j) (hde : di ≠ dj)
    (hz : ∀ w, (zeroValue T).run Tryd.prog w = .ok (.agg zero) w) (hS : ∀ w', Below w.heap.size w w' → S w')
    (h : ∀ w' px py, Below w.heap.size w w' → RowAt w' px T zero → RowAt w' py T zero → px ≠ py → w.heap.size ≤ px → w.heap.size ≤ py → wpAnyH Tryd.prog md ops Q S fuel ((listed.setIfInBounds i true).setIfInBounds j true) ((a.put (some di) (.pointer (some ⟨px, 0, none⟩))).put (some dj) (.pointer (some ⟨py, 0, none⟩))) w') : wpAnyH Tryd.prog md ops Q S (fuel + 2) listed a w := by
  have hw1 : Below w.heap.size w (w.alloc (.cells zero T)) := (Below.refl _ _).alloc (Nat.le_refl _) _
  have hw2 : Below w.heap.size w ((w.alloc (.cells zero T)).alloc (.cells zero T)) := hw1.alloc (by simp) _
  have r1 := RowAt.old (RowAt.new w T zero) (.cells zero T)
  have r2 := RowAt.new (w.alloc (.cells zero T)) T zero
  simp only [World.size_alloc] at r2
  refine wpAnyH_ready hr (by simp) ?_
  refine ready_val2 i (some di) hi (gi _) hdi _ _ (run_alloc1 hoi hz) (hS _ hw1) ?_ ?_
  · refine wpAnyH_ready hri (by simp) ?_
    refine ready_val2 j (some dj) hj (gj _) hdj _ _ (run_alloc1 hoj hz) (hS _ hw2) ?_ AllReadyH.nil
    simp only [World.size_alloc]
    exact h _ w.heap.size (w.heap.size + 1) hw2 r1 r2 (by omega) (by omega) (by omega)
  · refine ready_val2 j (some dj) hj (gj _) hdj _ _ (run_alloc1 hoj hz) (hS _ hw1) ?_ AllReadyH.nil
    refine wpAnyH_ready hrj (by simp) ?_
    refine ready_val2 i (some di) hi (gi _) hdi _ _ (run_alloc1 hoi hz) (hS _ hw2) ?_ AllReadyH.nil
    simp only [World.size_alloc]
    rw [Array.setIfInBounds_comm (xs := listed) true true (Ne.symm hne), put_comm2 _ dj di _ _ (Ne.symm hde)]
    exact h _ (w.heap.size + 1) w.heap.size hw2 r2 r1 (by omega) (by omega) (by omega)
theorem rep_0 : Rep 0 0 zP := ⟨zP_len, by omega, fun i => by rw [zP_get]; exact Int.le_refl _, fun i => by rw [zP_get]; decide, fun i _ => zP_get i, fun h => by omega, vb_zero _ _ zP_get⟩
/-- What bezout answers. -/
def BzC (A B : Nat) (w : World) (e : Ending) (w' : World) : Prop := (∃ c : Cb, e = .returned (.agg c.C) ∧ c.Ok (bz B A 1 0 0 1).1 ∧ c.x = (bz B A 1 0 0 1).2.1 ∧ c.y = (bz B A 1 0 0 1).2.2 ∧ c.x.natAbs < 10 ^ 600 ∧ c.y.natAbs < 10 ^ 600 ∧ (bz B A 1 0 0 1).1 < 10 ^ 600) ∧ Below w.heap.size w w'

set_option maxHeartbeats 8000000 in
set_option maxRecDepth 100000 in
theorem bezout_any {A B k j : Nat} {p q : List Int} (w : World) (hP : Rep A k p) (hQ : Rep B j q) (hA : A < 10 ^ 600) (hB : B < 10 ^ 600) :
    Calls Tryd.prog 64 #[.agg (natC k p), .agg (natC j q)] w fun e w' => BzC A B w e w' := by
  have hz := zero_comb.1
  have hzn := zero_nat.1
  have hzw := zero_whole.1
  have hp := hP.len
  have hq := hQ.len
  have A0 := ((NatAt.new w k p).old (.cells (natC j q) 40)).old (.cells zC 94)
  have B0 := (NatAt.new (w.alloc (.cells (natC k p) 40)) j q).old (.cells zC 94)
  have C0 := RowAt.new ((w.alloc (.cells (natC k p) 40)).alloc (.cells (natC j q) 40)) 94 zC
  have hB0 : Below w.heap.size w (((w.alloc (.cells (natC k p) 40)).alloc (.cells (natC j q) 40)).alloc (.cells zC 94)) := (((Below.refl _ _).alloc (Nat.le_refl _) _).alloc (by first | (simp; done) | (simp; omega)) _).alloc (by first | (simp; done) | (simp; omega)) _
  have hws : (((w.alloc (.cells (natC k p) 40)).alloc (.cells (natC j q) 40)).alloc (.cells zC 94)).heap.size = w.heap.size + 1 + 1 + 1 := by simp
  simp only [World.size_alloc] at B0 C0
  have HP := hide (And.intro hP hQ)
  have HAB := hide (And.intro hA hB)
  have HM : Hid (max A B < 10 ^ 600) := max_lt3 hA hB
  clear hP hQ hA hB
  change ∀ w, (zeroValue 94).run Tryd.prog w = .ok (.agg zC) w at hz
  go_enter Tryd.func64, Tryd.ntmps64
  generalize hw0 : ((w.alloc (.cells (natC k p) 40)).alloc (.cells (natC j q) 40)).alloc (.cells zC 94) = w0 at A0 B0 C0 hB0 hws
  go_wp2_with fail
  clear hw0
  refine (smallWhole_any 1 w0 (by omega) (by omega)).mono ?_
  rintro e w1 ⟨i1, r1, rfl, hR1, hW1⟩
  have hr1 := hR1.len
  have hs1 := hW1.size
  have HR1 := hide hR1
  have A1 := A0.below hW1 (by omega)
  have B1 := B0.below hW1 (by omega)
  have C1 := C0.below hW1 (by omega)
  have V1 : Below w.heap.size w w1 := hB0.trans (hW1.mono (by omega))
  have D1 := WholeAt.new w1 false 0 zP
  clear A0 B0 C0 hB0 hW1 hR1
  rw [show decide ((1 : Int) < 0) = false by decide]
  go_wp2_with (refine store_whole rfl _ _ rfl rfl w1.heap.size false i1 r1 rfl rfl false 0 zP D1 zP_len hr1 ?_; intro w2 hN2 hg2 hs2)
  have A2 := (A1.old (.cells (wholeC false 0 zP) 69)).grown hg2 (by simp; omega)
  have B2 := (B1.old (.cells (wholeC false 0 zP) 69)).grown hg2 (by simp; omega)
  have C2 := (C1.old (.cells (wholeC false 0 zP) 69)).grown hg2 (by simp; omega)
  have V2 : Below w.heap.size w w2 := (V1.alloc V1.size _).grown hg2 (by simp; have := V1.size; omega) (by intro k hk; cases hk; have := V1.size; omega)
  have hs2' : w1.heap.size + 1 = w2.heap.size := by rw [hs2]; simp
  clear A1 B1 C1 V1 D1 hg2 hs2
  refine held_begin (fun w' => NatAt w' w.heap.size k p ∧ NatAt w' (w.heap.size + 1) j q ∧ WholeAt w' w1.heap.size false i1 r1 ∧ RowAt w' (w.heap.size + 1 + 1) 94 zC) (by kernel_rfl) ?_
  have hS : NatAt w2.drew w.heap.size k p ∧ NatAt w2.drew (w.heap.size + 1) j q ∧ WholeAt w2.drew w1.heap.size false i1 r1 ∧ RowAt w2.drew (w.heap.size + 1 + 1) 94 zC := ⟨A2, B2, hN2, C2⟩
  refine held_load 0 (some 11) rfl rfl (by kernel_rfl) (by kernel_rfl) (by kernel_rfl) noPanic_put rfl _ rfl (w.heap.size) rfl k p (fun _ h => h.1) hp hS ?_
  simp only [Act.put, List.setIfInBounds_toArray, List.set_cons_zero, List.set_cons_succ]
  refine held_valS 1 (some 12) rfl rfl (by kernel_rfl) (by kernel_rfl) (by kernel_rfl) noPanic_put rfl (.agg (wholeC false i1 r1)) (fun _ h => run_row_whole _ rfl w1.heap.size rfl false i1 r1 h.2.2.1 hr1) hS ?_
  simp only [Act.put, List.setIfInBounds_toArray, List.set_cons_zero, List.set_cons_succ]
  refine held_val 2 (some 13) rfl rfl (by kernel_rfl) (by kernel_rfl) (by kernel_rfl) noPanic_put rfl (.agg (combC k p false i1 r1 false 0 zP)) (fun _ => run_build2 94 0 1 (.tmp 11) (.tmp 12) rfl _ _ rfl rfl _ (built_comb01 k p false i1 r1 hp hr1)) hS ?_
  simp only [Act.put, List.setIfInBounds_toArray, List.set_cons_zero, List.set_cons_succ]
  refine held_load 3 (some 14) rfl rfl (by kernel_rfl) (by kernel_rfl) (by kernel_rfl) noPanic_put rfl _ rfl (w.heap.size + 1) rfl j q (fun _ h => h.2.1) hq hS ?_
  simp only [Act.put, List.setIfInBounds_toArray, List.set_cons_zero, List.set_cons_succ]
  refine held_valS 4 (some 15) rfl rfl (by kernel_rfl) (by kernel_rfl) (by kernel_rfl) noPanic_put rfl (.agg (wholeC false i1 r1)) (fun _ h => run_row_whole _ rfl w1.heap.size rfl false i1 r1 h.2.2.1 hr1) hS ?_
  simp only [Act.put, List.setIfInBounds_toArray, List.set_cons_zero, List.set_cons_succ]
  refine held_val 5 (some 16) rfl rfl (by kernel_rfl) (by kernel_rfl) (by kernel_rfl) noPanic_put rfl (.agg (combC j q false 0 zP false i1 r1)) (fun _ => run_build2 94 0 2 (.tmp 14) (.tmp 15) rfl _ _ rfl rfl _ (built_comb02 j q false i1 r1 hq hr1)) hS ?_
  simp only [Act.put, List.setIfInBounds_toArray, List.set_cons_zero, List.set_cons_succ]
  refine alloc_two 6 7 6 7 rfl rfl rfl rfl rfl rfl (fun _ => rfl) (fun _ => rfl) (by kernel_rfl) (by kernel_rfl) (by kernel_rfl) (by decide) (by decide) hz (fun w' h => ⟨hS.1.below h (by show _ < w2.heap.size; omega), hS.2.1.below h (by show _ < w2.heap.size; omega), RowAt.below hS.2.2.1 h (by show _ < w2.heap.size; omega), RowAt.below hS.2.2.2 h (by show _ < w2.heap.size; omega)⟩) ?_
  intro w3 b6 b7 hW3 hR6 hR7 hne h6 h7
  simp only [Act.put, List.setIfInBounds_toArray, List.set_cons_zero, List.set_cons_succ]
  have hs3 : w2.heap.size ≤ w3.heap.size := hW3.size
  have hS3 : NatAt w3 w.heap.size k p ∧ NatAt w3 (w.heap.size + 1) j q ∧ WholeAt w3 w1.heap.size false i1 r1 ∧ RowAt w3 (w.heap.size + 1 + 1) 94 zC := ⟨hS.1.below hW3 (by show _ < w2.heap.size; omega), hS.2.1.below hW3 (by show _ < w2.heap.size; omega), RowAt.below hS.2.2.1 hW3 (by show _ < w2.heap.size; omega), RowAt.below hS.2.2.2 hW3 (by show _ < w2.heap.size; omega)⟩
  have h6' : w2.heap.size ≤ b6 := h6
  have h7' : w2.heap.size ≤ b7 := h7
  have hok6 : (Cb.mk k p 1 i1 r1 0 0 zP).Ok A := ⟨HP.out.1, HR1.out, rep_0⟩
  have hok7 : (Cb.mk j q 0 0 zP 1 i1 r1).Ok B := ⟨HP.out.2, rep_0, HR1.out⟩
  refine held_store_cb 8 (by kernel_rfl) rfl rfl _ _ rfl rfl b6 (Cb.mk k p 1 i1 r1 0 0 zP) A rfl rfl zC hR6 zC_size hok6 ?_
  intro w4 hN4 hg4 hs4
  have hS4 : NatAt w4 w.heap.size k p ∧ NatAt w4 (w.heap.size + 1) j q ∧ WholeAt w4 w1.heap.size false i1 r1 ∧ RowAt w4 (w.heap.size + 1 + 1) 94 zC := ⟨hS3.1.grown hg4 (by simp; omega), hS3.2.1.grown hg4 (by simp; omega), RowAt.grown hS3.2.2.1 hg4 (by simp; omega), RowAt.grown hS3.2.2.2 hg4 (by simp; omega)⟩
  refine ⟨hS4, ?_⟩
  refine held_store_cb 9 (by kernel_rfl) rfl rfl _ _ rfl rfl b7 (Cb.mk j q 0 0 zP 1 i1 r1) B rfl rfl zC (RowAt.grown hR7 hg4 (by simp; omega)) zC_size hok7 ?_
  intro w5 hN5 hg5 hs5
  have hS5 : NatAt w5 w.heap.size k p ∧ NatAt w5 (w.heap.size + 1) j q ∧ WholeAt w5 w1.heap.size false i1 r1 ∧ RowAt w5 (w.heap.size + 1 + 1) 94 zC := ⟨hS4.1.grown hg5 (by simp; omega), hS4.2.1.grown hg5 (by simp; omega), RowAt.grown hS4.2.2.1 hg5 (by simp; omega), RowAt.grown hS4.2.2.2 hg5 (by simp; omega)⟩
  refine ⟨hS5, ?_⟩
  refine wpAnyH_done (by kernel_rfl) ?_ _
  refine NoPanic.normal ?_
  have hV5 : Below w.heap.size w w5 := ((V2.drew.trans (hW3.mono V2.size)).grown hg4 (by have := V2.size; omega) (by intro k hk; cases hk; have := V2.size; omega)).grown hg5 (by have := V2.size; omega) (by intro k hk; cases hk; have := V2.size; omega)
  have hC5 : Cb.At w5 b6 (Cb.mk k p 1 i1 r1 0 0 zP) := RowAt.grown hN4 hg5 (by simp; omega)
  have hZ5 := hS5.2.2.2
  have H1 : Hid ((1 : Int).natAbs < 10 ^ 600 ∧ (0 : Int).natAbs < 10 ^ 600) := ⟨one_lt_600, Nat.lt_trans (by decide) one_lt_600⟩
  have hb6l : b6 < w5.heap.size := RowAt.lt hC5
  have hb7l : b7 < w5.heap.size := RowAt.lt hN5
  have hb6 : w.heap.size + 1 + 1 < b6 := by omega
  have hb7 : w.heap.size + 1 + 1 < b7 := by omega
  have HOK := hide (And.intro hok6 hok7)
  clear hS hS3 hS4 hS5 hR6 hR7 hW3 hg4 hs4 hg5 hs5 V2 A2 B2 C2 hN2 hN4 h6 h7 h6' h7' hs1 hs2' hws hok6 hok7 hs3
  go_wp2_with fail
  go_loopg [] B (fun g wr => ∃ (r : Nat) (c d : Cb), Hid (BzOk A B r g c.x c.y d.x d.y) ∧ Hid (c.Ok r ∧ d.Ok g) ∧ Hid (c.x.natAbs < 10 ^ 600 ∧ c.y.natAbs < 10 ^ 600 ∧ d.x.natAbs < 10 ^ 600 ∧ d.y.natAbs < 10 ^ 600) ∧ Cb.At wr b6 c ∧ Cb.At wr b7 d ∧ RowAt wr (w.heap.size + 1 + 1) 94 zC ∧ Below w.heap.size w wr)
  case atStart => exact ⟨A, Cb.mk k p 1 i1 r1 0 0 zP, Cb.mk j q 0 0 zP 1 i1 r1, BzOk.start A B, HOK.out, ⟨H1.out.1, H1.out.2, H1.out.2, H1.out.1⟩, hC5, hN5, hZ5, hV5⟩
  case round =>
    obtain ⟨r, c, d, HO, HCD, HBD, hC, hD, hZ, hV⟩ := hrel
    clear hC5 hN5 hZ5 hV5 HOK
    have hu := hD.comb.used
    have hcl := HCD.out.1.r.len
    have hdl := HCD.out.2.r.len
    have hc6 := RowAt.lt hC
    have hd7 := RowAt.lt hD
    have hvs := hV.size
    by_cases h0 : d.k = 0
    · have hg0 : gk = 0 := HCD.out.2.r.zero_iff.1 h0
      have HE : Hid (c.Ok (bz B A 1 0 0 1).1 ∧ c.x = (bz B A 1 0 0 1).2.1 ∧ c.y = (bz B A 1 0 0 1).2.2 ∧ c.x.natAbs < 10 ^ 600 ∧ c.y.natAbs < 10 ^ 600 ∧ (bz B A 1 0 0 1).1 < 10 ^ 600) := by
        have h5 := HO.out.2.2.2.2
        rw [hg0, bz_end] at h5
        rw [← h5]
        exact ⟨HCD.out.1, rfl, rfl, HBD.out.1, HBD.out.2.1, Nat.lt_of_le_of_lt HO.out.2.2.1 HM.out⟩
      have hle : ¬ (0 : Int) < (d.k : Int) := by omega
      clear h0 hg0
      go_wp2_with (first | (refine load_cb rfl (.tmp 6) rfl b6 rfl c r hC HCD.out.1 ?_) | (refine store_cb rfl (.tmp 4) _ rfl rfl (w.heap.size + 1 + 1) c r rfl rfl zC hZ zC_size HCD.out.1 ?_; intro wz hNz hgz hsz))
      refine bodyPost_ret (v := .agg c.C) (results_cell_row Tryd.results64 _ _ (w.heap.size + 1 + 1) 94 c.C (0, 0) _ rfl hNz Tryd.underlying94 rfl HCD.out.1.info) rfl ⟨⟨c, rfl, HE.out⟩, hV.grown hgz (by omega) (by intro k hk; cases hk; omega)⟩
    · have hpk : (0 : Int) < (d.k : Int) := by omega
      have hgn : gk ≠ 0 := fun h => h0 (HCD.out.2.r.zero_iff.2 h)
      have hpos : 0 < gk := Nat.pos_of_ne_zero hgn
      have HST := hide (HO.out.step hgn)
      have bx := HO.out.1.bound hpos
      have by' := HO.out.2.1.bound hpos
      have HB2 : Hid ((c.x - ((r / gk : Nat) : Int) * d.x).natAbs < 10 ^ 600 ∧ (c.y - ((r / gk : Nat) : Int) * d.y).natAbs < 10 ^ 600) := by
        simp only [Int.natAbs_natCast] at bx by'
        exact ⟨Nat.lt_of_le_of_lt bx.1 HAB.out.2, Nat.lt_of_le_of_lt by'.1 HAB.out.1⟩
      have HLT : Hid (r % gk < gk) := Nat.mod_lt _ hpos
      have hr600 := Nat.lt_of_le_of_lt HO.out.2.2.1 HM.out
      have hck : c.k ≤ 100 := HCD.out.1.r.small hr600
      have hck1 : c.k1 ≤ 100 := HCD.out.1.x.small HBD.out.1
      have hck2 : c.k2 ≤ 100 := HCD.out.1.y.small HBD.out.2.1
      have hdk1 : d.k1 ≤ 100 := HCD.out.2.x.small HBD.out.2.2.1
      have hdk2 : d.k2 ≤ 100 := HCD.out.2.y.small HBD.out.2.2.2
      have hdk0 : 0 < d.k := by omega
      have HR600 := hide hr600
      clear h0 hgn hpos bx by' hr600
      go_wp2_with (first | (refine load_mid_nat rfl (.tmp 22) rfl b6 0 rfl c.k c.p hC.comb.sum hcl ?_) | (refine load_mid_nat rfl (.tmp 24) rfl b7 0 rfl d.k d.p hD.comb.sum hdl ?_))
      refine (divide_any wr HCD.out.1.r HCD.out.2.r hdk0 (by omega)).mono ?_
      rintro e x1 ⟨qi, ti, qq, tt, rfl, hQ1, hT1, hX1⟩
      have hql := hQ1.len
      have htl := hT1.len
      have hqi : qi ≤ 100 := hQ1.small (Nat.lt_of_le_of_lt (Nat.div_le_self _ _) HR600.out)
      have HQT := hide (And.intro hQ1 hT1)
      have hsx1 := hX1.size
      have hC1 := RowAt.below hC hX1 (by omega)
      have hD1 := RowAt.below hD hX1 (by omega)
      have hZ1 := RowAt.below hZ hX1 (by omega)
      have hV1 : Below w.heap.size w x1 := hV.trans (hX1.mono hvs)
      have E1 := (NatAt.new x1 0 zP).old (.cells (natC 0 zP) 40)
      have F1 := NatAt.new (x1.alloc (.cells (natC 0 zP) 40)) 0 zP
      simp only [World.size_alloc] at F1
      clear hC hD hZ hV hX1 hQ1 hT1
      go_wp2_with (first | (refine store_nat rfl (.tmp 8) _ rfl rfl x1.heap.size qi qq rfl rfl 0 zP E1 zP_len hql ?_; intro x2 hN2 hg2 hs2) | (refine store_nat rfl (.tmp 9) _ rfl rfl (x1.heap.size + 1) ti tt rfl rfl 0 zP (F1.grown hg2 (by simp)) zP_len htl ?_; intro x3 hN3 hg3 hs3))
      have hC3 : Cb.At x3 b6 c := RowAt.grown (RowAt.grown (RowAt.old (RowAt.old hC1 _) _) hg2 (by simp; omega)) hg3 (by simp; omega)
      have hD3 : Cb.At x3 b7 d := RowAt.grown (RowAt.grown (RowAt.old (RowAt.old hD1 _) _) hg2 (by simp; omega)) hg3 (by simp; omega)
      have hZ3 : RowAt x3 (w.heap.size + 1 + 1) 94 zC := RowAt.grown (RowAt.grown (RowAt.old (RowAt.old hZ1 _) _) hg2 (by simp; omega)) hg3 (by simp; omega)
      have hQ3 : NatAt x3 x1.heap.size qi qq := hN2.grown hg3 (by simp)
      have hV3 : Below w.heap.size w x3 := (((hV1.alloc hV1.size _).alloc (by simp; have := hV1.size; omega) _).grown hg2 (by simp; have := hV1.size; omega) (by intro k hk; cases hk; have := hV1.size; omega)).grown hg3 (by rw [hs2]; simp; have := hV1.size; omega) (by intro k hk; cases hk; have := hV1.size; omega)
      have hs3' : x1.heap.size + 1 + 1 = x3.heap.size := by rw [hs3, hs2]; simp
      clear hC1 hD1 hZ1 hV1 E1 F1 hN2 hg2 hs2 hg3 hs3
      refine many_begin [(17, fun w' => Cb.At w' b6 c), (18, fun w' => Cb.At w' b7 d)] (fun w' => NatAt w' x1.heap.size qi qq ∧ NatAt w' (x1.heap.size + 1) ti tt) (by kernel_rfl) ?_
      have hS : Cb.At x3.drew b6 c ∧ Cb.At x3.drew b7 d ∧ NatAt x3.drew x1.heap.size qi qq ∧ NatAt x3.drew (x1.heap.size + 1) ti tt := ⟨hC3, hD3, hQ3, hN3⟩
      refine BL.many_val 0 (some 29) rfl rfl (by kernel_rfl) (by kernel_rfl) (by kernel_rfl) [18] (by kernel_rfl) (not_late 0 (by decide) (by decide)) noPanic_put rfl (.agg d.C) (fun _ h => run_rowT (.tmp 7) 94 rfl b7 rfl d.C _ (h.2 (18, fun w' => Cb.At w' b7 d) (by simp) (by simp)) Tryd.underlying94 HCD.out.2.info) (late2 hS.2.2 (.inr hS.1) (.inr hS.2.1)) ?_
      simp only [Act.put, List.setIfInBounds_toArray, List.set_cons_zero, List.set_cons_succ]
      refine BL.many_val 1 (some 30) rfl rfl (by kernel_rfl) (by kernel_rfl) (by kernel_rfl) [] (by kernel_rfl) (not_late 1 (by decide) (by decide)) noPanic_put rfl (.agg (natC ti tt)) (fun _ h => run_nat0 _ rfl (x1.heap.size + 1) rfl ti tt htl h.1.2) (late2 hS.2.2 (.inr hS.1) (.inr hS.2.1)) ?_
      simp only [Act.put, List.setIfInBounds_toArray, List.set_cons_zero, List.set_cons_succ]
      refine BL.many_val 2 (some 31) rfl rfl (by kernel_rfl) (by kernel_rfl) (by kernel_rfl) [] (by kernel_rfl) (not_late 2 (by decide) (by decide)) noPanic_put rfl (.pointer (some ⟨b6, 205, none⟩)) (fun _ _ => by go_simp) (late2 hS.2.2 (.inr hS.1) (.inr hS.2.1)) ?_
      simp only [Act.put, List.setIfInBounds_toArray, List.set_cons_zero, List.set_cons_succ]
      refine BL.many_val 3 (some 32) rfl rfl (by kernel_rfl) (by kernel_rfl) (by kernel_rfl) [17] (by kernel_rfl) (not_late 3 (by decide) (by decide)) noPanic_put rfl (.agg (wholeC (decide (c.x < 0)) c.k1 c.p1)) (fun _ h => run_mid_whole _ rfl b6 205 rfl _ c.k1 c.p1 (Cb.At.comb (h.2 (17, fun w' => Cb.At w' b6 c) (by simp) (by simp)) |>.x hcl) HCD.out.1.x.len) (late2 hS.2.2 (.inr hS.1) (.inr hS.2.1)) ?_
      simp only [Act.put, List.setIfInBounds_toArray, List.set_cons_zero, List.set_cons_succ]
      refine BL.many_val 4 (some 33) rfl rfl (by kernel_rfl) (by kernel_rfl) (by kernel_rfl) [] (by kernel_rfl) (not_late 4 (by decide) (by decide)) noPanic_put rfl (.pointer (some ⟨b7, 205, none⟩)) (fun _ _ => by go_simp) (late2 hS.2.2 (.inr hS.1) (.inr hS.2.1)) ?_
      simp only [Act.put, List.setIfInBounds_toArray, List.set_cons_zero, List.set_cons_succ]
      refine BL.many_val 5 (some 34) rfl rfl (by kernel_rfl) (by kernel_rfl) (by kernel_rfl) [18] (by kernel_rfl) (not_late 5 (by decide) (by decide)) noPanic_put rfl (.agg (wholeC (decide (d.x < 0)) d.k1 d.p1)) (fun _ h => run_mid_whole _ rfl b7 205 rfl _ d.k1 d.p1 (Cb.At.comb (h.2 (18, fun w' => Cb.At w' b7 d) (by simp) (by simp)) |>.x hdl) HCD.out.2.x.len) (late2 hS.2.2 (.inr hS.1) (.inr hS.2.1)) ?_
      simp only [Act.put, List.setIfInBounds_toArray, List.set_cons_zero, List.set_cons_succ]
      refine BL.many_val 6 (some 35) rfl rfl (by kernel_rfl) (by kernel_rfl) (by kernel_rfl) [] (by kernel_rfl) (not_late 6 (by decide) (by decide)) noPanic_put rfl (.agg (natC qi qq)) (fun _ h => run_nat0 _ rfl x1.heap.size rfl qi qq hql h.1.1) (late2 hS.2.2 (.inr hS.1) (.inr hS.2.1)) ?_
      simp only [Act.put, List.setIfInBounds_toArray, List.set_cons_zero, List.set_cons_succ]
      refine BL.many_val 9 (some 38) rfl rfl (by kernel_rfl) (by kernel_rfl) (by kernel_rfl) [] (by kernel_rfl) (not_late 9 (by decide) (by decide)) noPanic_put rfl (.pointer (some ⟨b6, 411, none⟩)) (fun _ _ => by go_simp) (late2 hS.2.2 (.inr hS.1) (.inr hS.2.1)) ?_
      simp only [Act.put, List.setIfInBounds_toArray, List.set_cons_zero, List.set_cons_succ]
      refine BL.many_val 10 (some 39) rfl rfl (by kernel_rfl) (by kernel_rfl) (by kernel_rfl) [17] (by kernel_rfl) (not_late 10 (by decide) (by decide)) noPanic_put rfl (.agg (wholeC (decide (c.y < 0)) c.k2 c.p2)) (fun _ h => run_mid_whole _ rfl b6 411 rfl _ c.k2 c.p2 (Cb.At.comb (h.2 (17, fun w' => Cb.At w' b6 c) (by simp) (by simp)) |>.y hcl HCD.out.1.x.len) HCD.out.1.y.len) (late2 hS.2.2 (.inr hS.1) (.inr hS.2.1)) ?_
      simp only [Act.put, List.setIfInBounds_toArray, List.set_cons_zero, List.set_cons_succ]
      refine BL.many_val 11 (some 40) rfl rfl (by kernel_rfl) (by kernel_rfl) (by kernel_rfl) [] (by kernel_rfl) (not_late 11 (by decide) (by decide)) noPanic_put rfl (.pointer (some ⟨b7, 411, none⟩)) (fun _ _ => by go_simp) (late2 hS.2.2 (.inr hS.1) (.inr hS.2.1)) ?_
      simp only [Act.put, List.setIfInBounds_toArray, List.set_cons_zero, List.set_cons_succ]
      refine BL.many_val 12 (some 41) rfl rfl (by kernel_rfl) (by kernel_rfl) (by kernel_rfl) [18] (by kernel_rfl) (not_late 12 (by decide) (by decide)) noPanic_put rfl (.agg (wholeC (decide (d.y < 0)) d.k2 d.p2)) (fun _ h => run_mid_whole _ rfl b7 411 rfl _ d.k2 d.p2 (Cb.At.comb (h.2 (18, fun w' => Cb.At w' b7 d) (by simp) (by simp)) |>.y hdl HCD.out.2.x.len) HCD.out.2.y.len) (late2 hS.2.2 (.inr hS.1) (.inr hS.2.1)) ?_
      simp only [Act.put, List.setIfInBounds_toArray, List.set_cons_zero, List.set_cons_succ]
      refine BL.many_val 13 (some 42) rfl rfl (by kernel_rfl) (by kernel_rfl) (by kernel_rfl) [] (by kernel_rfl) (not_late 13 (by decide) (by decide)) noPanic_put rfl (.agg (natC qi qq)) (fun _ h => run_nat0 _ rfl x1.heap.size rfl qi qq hql h.1.1) (late2 hS.2.2 (.inr hS.1) (.inr hS.2.1)) ?_
      simp only [Act.put, List.setIfInBounds_toArray, List.set_cons_zero, List.set_cons_succ]
      refine many_call 7 (some 36) (by kernel_rfl) rfl rfl rfl 77 #[.agg (wholeC (decide (d.x < 0)) d.k1 d.p1), .agg (natC qi qq)] (by go_simp) _ (scaled_any (decide (d.x < 0)) x3.drew HCD.out.2.x HQT.out.1 hdk1 hqi) ?_
      rintro e x4 ⟨i4, r4, rfl, hR4, hX4⟩
      have hsx4 : x3.heap.size ≤ x4.heap.size := hX4.size
      have hS4 : Cb.At x4 b6 c ∧ Cb.At x4 b7 d ∧ NatAt x4 x1.heap.size qi qq ∧ NatAt x4 (x1.heap.size + 1) ti tt := ⟨RowAt.below hS.1 hX4 (by show _ < x3.heap.size; omega), RowAt.below hS.2.1 hX4 (by show _ < x3.heap.size; omega), hS.2.2.1.below hX4 (by show _ < x3.heap.size; omega), hS.2.2.2.below hX4 (by show _ < x3.heap.size; omega)⟩
      have hi4 : i4 ≤ 201 := Nat.le_trans (HCD.out.2.x.mul_used HQT.out.1 hR4) (by omega)
      have hv4 : sg (decide (d.x < 0)) (d.x.natAbs * (r / gk)) = ((r / gk : Nat) : Int) * d.x := by rw [sg_mulN, sg_abs_of, Int.mul_comm]
      refine ⟨_, rfl, (late2 hS4.2.2 (.inr hS4.1) (.inr hS4.2.1)), ?_⟩
      simp only [Act.put, List.setIfInBounds_toArray, List.set_cons_zero, List.set_cons_succ]
      refine many_call 8 (some 37) (by kernel_rfl) rfl rfl rfl 66 #[.agg (wholeC (decide (c.x < 0)) c.k1 c.p1), .agg (wholeC (decide (d.x < 0)) i4 r4)] (by go_simp) _ (less_any c.x (((r / gk : Nat) : Int) * d.x) (decide (d.x < 0)) x4 HCD.out.1.x hR4 hv4 (by omega) hi4) ?_
      rintro e x5 ⟨i5, r5, rfl, hR5, hX5⟩
      have hsx5 := hX5.size
      have hS5 : Cb.At x5 b6 c ∧ Cb.At x5 b7 d ∧ NatAt x5 x1.heap.size qi qq ∧ NatAt x5 (x1.heap.size + 1) ti tt := ⟨RowAt.below hS4.1 hX5 (by omega), RowAt.below hS4.2.1 hX5 (by omega), hS4.2.2.1.below hX5 (by omega), hS4.2.2.2.below hX5 (by omega)⟩
      refine ⟨_, rfl, (late2 hS5.2.2 (.inr hS5.1) (.inr hS5.2.1)), ?_⟩
      simp only [Act.put, List.setIfInBounds_toArray, List.set_cons_zero, List.set_cons_succ]
      refine many_call 14 (some 43) (by kernel_rfl) rfl rfl rfl 77 #[.agg (wholeC (decide (d.y < 0)) d.k2 d.p2), .agg (natC qi qq)] (by go_simp) _ (scaled_any (decide (d.y < 0)) x5 HCD.out.2.y HQT.out.1 hdk2 hqi) ?_
      rintro e x6 ⟨i6, r6, rfl, hR6, hX6⟩
      have hsx6 := hX6.size
      have hS6 : Cb.At x6 b6 c ∧ Cb.At x6 b7 d ∧ NatAt x6 x1.heap.size qi qq ∧ NatAt x6 (x1.heap.size + 1) ti tt := ⟨RowAt.below hS5.1 hX6 (by omega), RowAt.below hS5.2.1 hX6 (by omega), hS5.2.2.1.below hX6 (by omega), hS5.2.2.2.below hX6 (by omega)⟩
      have hi6 : i6 ≤ 201 := Nat.le_trans (HCD.out.2.y.mul_used HQT.out.1 hR6) (by omega)
      have hv6 : sg (decide (d.y < 0)) (d.y.natAbs * (r / gk)) = ((r / gk : Nat) : Int) * d.y := by rw [sg_mulN, sg_abs_of, Int.mul_comm]
      refine ⟨_, rfl, (late2 hS6.2.2 (.inr hS6.1) (.inr hS6.2.1)), ?_⟩
      simp only [Act.put, List.setIfInBounds_toArray, List.set_cons_zero, List.set_cons_succ]
      refine many_call 15 (some 44) (by kernel_rfl) rfl rfl rfl 66 #[.agg (wholeC (decide (c.y < 0)) c.k2 c.p2), .agg (wholeC (decide (d.y < 0)) i6 r6)] (by go_simp) _ (less_any c.y (((r / gk : Nat) : Int) * d.y) (decide (d.y < 0)) x6 HCD.out.1.y hR6 hv6 (by omega) hi6) ?_
      rintro e x7 ⟨i7, r7, rfl, hR7, hX7⟩
      have hsx7 := hX7.size
      have hS7 : Cb.At x7 b6 c ∧ Cb.At x7 b7 d ∧ NatAt x7 x1.heap.size qi qq ∧ NatAt x7 (x1.heap.size + 1) ti tt := ⟨RowAt.below hS6.1 hX7 (by omega), RowAt.below hS6.2.1 hX7 (by omega), hS6.2.2.1.below hX7 (by omega), hS6.2.2.2.below hX7 (by omega)⟩
      have hokE : (Cb.mk ti tt (c.x - ((r / gk : Nat) : Int) * d.x) i5 r5 (c.y - ((r / gk : Nat) : Int) * d.y) i7 r7).Ok (r % gk) := ⟨HQT.out.2, hR5, hR7⟩
      refine ⟨_, rfl, (late2 hS7.2.2 (.inr hS7.1) (.inr hS7.2.1)), ?_⟩
      simp only [Act.put, List.setIfInBounds_toArray, List.set_cons_zero, List.set_cons_succ]
      refine BL.many_val 16 (some 45) rfl rfl (by kernel_rfl) (by kernel_rfl) (by kernel_rfl) [] (by kernel_rfl) (not_late 16 (by decide) (by decide)) noPanic_put rfl (.agg (Cb.mk ti tt (c.x - ((r / gk : Nat) : Int) * d.x) i5 r5 (c.y - ((r / gk : Nat) : Int) * d.y) i7 r7).C) (fun _ _ => run_build3 94 0 1 2 (.tmp 30) (.tmp 37) (.tmp 44) rfl _ _ _ rfl rfl rfl _ (built_comb3 ti tt _ i5 r5 _ i7 r7 htl hR5.len hR7.len)) (late2 hS7.2.2 (.inr hS7.1) (.inr hS7.2.1)) ?_
      simp only [Act.put, List.setIfInBounds_toArray, List.set_cons_zero, List.set_cons_succ]
      refine many_store_cb 17 (by kernel_rfl) rfl rfl _ _ rfl rfl b6 d gk rfl rfl c.C hS7.1 HCD.out.1.size HCD.out.2 ?_
      intro x8 hN8 hg8 hs8
      refine ⟨late2 ⟨hS7.2.2.1.grown hg8 (by simp; omega), hS7.2.2.2.grown hg8 (by simp; omega)⟩ (.inl rfl) (.inr (RowAt.grown hS7.2.1 hg8 (by simp; omega))), ?_⟩
      refine many_store_cb 18 (by kernel_rfl) rfl rfl _ _ rfl rfl b7 (Cb.mk ti tt (c.x - ((r / gk : Nat) : Int) * d.x) i5 r5 (c.y - ((r / gk : Nat) : Int) * d.y) i7 r7) (r % gk) rfl rfl d.C (RowAt.grown hS7.2.1 hg8 (by simp; omega)) HCD.out.2.size hokE ?_
      intro x9 hN9 hg9 hs9
      refine ⟨late2 ⟨(hS7.2.2.1.grown hg8 (by simp; omega)).grown hg9 (by simp; omega), (hS7.2.2.2.grown hg8 (by simp; omega)).grown hg9 (by simp; omega)⟩ (.inl rfl) (.inl rfl), ?_⟩
      refine BL.many_done (by kernel_rfl) ?_ _
      refine NoPanic.normal ?_
      have hXX : Below x3.heap.size x3 x7 := (((⟨hX4.os, hX4.tape, hX4.output, hX4.size, hX4.block⟩ : Below x3.heap.size x3 x4).trans (hX5.mono hsx4)).trans (hX6.mono (by omega))).trans (hX7.mono (by omega))
      have hZ9 : RowAt x9 (w.heap.size + 1 + 1) 94 zC := RowAt.grown (RowAt.grown (RowAt.below hZ3 hXX (by omega)) hg8 (by simp; omega)) hg9 (by simp; omega)
      have hC9 : Cb.At x9 b6 d := RowAt.grown hN8 hg9 (by simp; omega)
      have hV9 : Below w.heap.size w x9 := ((hV3.trans (hXX.mono hV3.size)).grown hg8 (by have := hV3.size; omega) (by intro k hk; cases hk; omega)).grown hg9 (by rw [hs8]; have := hV3.size; omega) (by intro k hk; cases hk; omega)
      have HE := hide hokE
      clear hS hS4 hS5 hS6 hS7 hX4 hX5 hX6 hX7 hXX hR4 hR5 hR6 hR7 hg8 hg9 hZ3 hV3 hC3 hD3 hQ3 hN3 hokE hv4 hv6
      go_wp2
      go_roundg (r % gk)
      case measure => exact HLT.out
      case rel => exact ⟨gk, d, _, HST, ⟨HCD.out.2, HE.out⟩, ⟨HBD.out.2.2.1, HBD.out.2.2.2, HB2.out.1, HB2.out.2⟩, hC9, hN9, hZ9, hV9⟩
end Go.Proofs.YthbnacikomimfaaDoor

/-
  Classes (a rest and a modulus) in memory.
-/
namespace Go.Proofs.YthbnacikomimfaaDoor
open Go.RowKit
set_option linter.unusedVariables false

/-- A class's cells. -/
def clsL (u : Int) (p : List Int) (v : Int) (q : List Int) : List Value := natL u p ++ natL v q
def clsC (u : Int) (p : List Int) (v : Int) (q : List Int) : Array Value := (clsL u p v q).toArray
def ClsAt (w : World) (b : Nat) (u : Int) (p : List Int) (v : Int) (q : List Int) : Prop := RowAt w b 64 (clsC u p v q)
section
variable {w : World} {b : Nat} {u : Int} {p : List Int} {v : Int} {q : List Int}
theorem ClsAt.rest (h : ClsAt w b u p v q) : w.rangeAt b 0 (natL u p) := by
  have h' : RowAt w b 64 ([] ++ natL u p ++ natL v q).toArray := h
  exact h'.range
theorem ClsAt.modulus (h : ClsAt w b u p v q) (hp : p.length = 204) : w.rangeAt b 205 (natL v q) := by
  have h' : RowAt w b 64 (natL u p ++ natL v q ++ []).toArray := by
    have := h; unfold ClsAt clsC clsL at this; simpa using this
  have := h'.range
  rwa [natL_len, hp] at this
theorem ClsAt.new (w : World) (u : Int) (p : List Int) (v : Int) (q : List Int) : ClsAt (w.alloc (.cells (clsC u p v q) 64)) w.heap.size u p v q := RowAt.new w _ _
end
theorem cls_len (u : Int) (p : List Int) (v : Int) (q : List Int) (h : p.length = 204) (h1 : q.length = 204) : (clsC u p v q).size = 410 := by
  simp [clsC, clsL, natL_len, h, h1]
theorem zero_cls : (∀ w, (zeroValue 64).run Tryd.prog w = .ok (.agg (clsC 0 zP 0 zP)) w) ∧ (Tryd.prog.info? 64).map (·.size) = some 410 := zero_of_info (by kernel_rfl)
theorem cls_info (u : Int) (p : List Int) (v : Int) (q : List Int) (h : p.length = 204) (h1 : q.length = 204) : (Tryd.prog.info? 64).map (·.size) = some (clsC u p v q).size := by
  rw [cls_len u p v q h h1]; exact zero_cls.2
theorem cls_one (u : Int) (p : List Int) (v : Int) (q : List Int) : (clsC u p v q).all (·.oneCell') = true := by
  rw [Array.all_eq_true_iff_forall_mem]
  intro x hx
  simp only [clsC, clsL, List.mem_toArray, List.mem_append] at hx
  rcases hx with h | h <;> exact natL_one _ _ x h
theorem cls_places : ∃ fields : Array Field, Tryd.prog.underlying 64 = some (.struct fields) ∧ fields.toList.mapM (fun f => (Tryd.prog.info? f.type).map fun i => (f.offset, i.size)) = some [(0, 205), (205, 205)] := by
  exact ⟨_, Tryd.underlying64, by kernel_rfl⟩
theorem built_cls (u : Int) (p : List Int) (v : Int) (q : List Int) (h : p.length = 204) (h1 : q.length = 204) : Tryd.prog.built 64 [(0, .agg (natC u p)), (1, .agg (natC v q))] = some (clsC u p v q) := by
  obtain ⟨fs, e1, e2⟩ := cls_places
  have hz : (Tryd.prog.info? 64).bind (·.zero) = some (.agg (clsC 0 zP 0 zP)) := by kernel_rfl
  rw [built_of e1 hz e2]
  have s0 : clsC 0 zP 0 zP = (([] : List Value) ++ natL 0 zP ++ natL 0 zP).toArray := by simp [clsC, clsL]
  rw [s0, fill_step _ [] (natL 0 zP) _ 0 _ _ (by rw [natL_len, zP_len]; rfl) (by rw [cells_agg, natC_eq]; simp [natL_len, zP_len, h])]
  rw [show (([] : List Value) ++ (Value.agg (natC u p)).cells.toList ++ natL 0 zP).toArray = (natL u p ++ natL 0 zP ++ []).toArray by rw [cells_agg, natC_eq]; simp]
  rw [fill_step _ (natL u p) (natL 0 zP) [] 1 _ _ (by rw [natL_len, natL_len, h, zP_len]; rfl) (by rw [cells_agg, natC_eq]; simp [natL_len, zP_len, h1])]
  rw [cells_agg, natC_eq]
  simp [Instr.fill, clsC, clsL]
theorem built_cls1 (v : Int) (q : List Int) (h1 : q.length = 204) : Tryd.prog.built 64 [(1, .agg (natC v q))] = some (clsC 0 zP v q) := by
  obtain ⟨fs, e1, e2⟩ := cls_places
  have hz : (Tryd.prog.info? 64).bind (·.zero) = some (.agg (clsC 0 zP 0 zP)) := by kernel_rfl
  rw [built_of e1 hz e2]
  have s0 : clsC 0 zP 0 zP = (natL 0 zP ++ natL 0 zP ++ []).toArray := by simp [clsC, clsL]
  rw [s0, fill_step _ (natL 0 zP) (natL 0 zP) [] 1 _ _ (by rw [natL_len, zP_len]; rfl) (by rw [cells_agg, natC_eq]; simp [natL_len, zP_len, h1])]
  rw [cells_agg, natC_eq]
  simp [Instr.fill, clsC, clsL]

theorem built_cls0 : Tryd.prog.built 64 [] = some (clsC 0 zP 0 zP) := by kernel_rfl
theorem build_cls0 {ops : Array Oper} {rest : List Oper} {o : Oper} {a : Act} {w : World} {Q : Exit → Act → World → Prop} (hg : o.guard = none) (ho : o.op = .build 64 #[]) (d : Option Tmp) (hd : o.dst = d)
    (h : wpList Tryd.prog ops Q rest (a.put d (.agg (clsC 0 zP 0 zP))) w) : wpList Tryd.prog ops Q (o :: rest) a w :=
  wpList_buildTo hg 64 #[] ho d hd (clsC 0 zP 0 zP) (by simpa using built_cls0) h
theorem built_whole1 (u : Int) (p : List Int) (h : p.length = 204) : Tryd.prog.built 69 [(1, .agg (natC u p))] = some (wholeC false u p) := by
  have e1 : ∃ fields : Array Field, Tryd.prog.underlying 69 = some (.struct fields) ∧ fields.toList.mapM (fun f => (Tryd.prog.info? f.type).map fun i => (f.offset, i.size)) = some [(0, 1), (1, 205)] := ⟨_, Tryd.underlying69, by kernel_rfl⟩
  obtain ⟨fs, e1, e2⟩ := e1
  have hz : (Tryd.prog.info? 69).bind (·.zero) = some (.agg (wholeC false 0 zP)) := by kernel_rfl
  rw [built_of e1 hz e2]
  have s0 : wholeC false 0 zP = ([Value.bool false] ++ natL 0 zP ++ []).toArray := by simp [wholeC]
  rw [s0, fill_step _ [Value.bool false] (natL 0 zP) [] 1 _ _ (by rw [natL_len, zP_len]; rfl) (by rw [cells_agg, natC_eq]; simp [natL_len, zP_len, h])]
  rw [cells_agg, natC_eq]
  simp [Instr.fill, wholeC]
theorem build_whole1 {ops : Array Oper} {rest : List Oper} {o : Oper} {a : Act} {w : World} {Q : Exit → Act → World → Prop} (hg : o.guard = none) (y : Operand) (ho : o.op = .build 69 #[(1, y)]) (d : Option Tmp) (hd : o.dst = d)
    (u : Int) (p : List Int) (hp : p.length = 204) (hy : a.eval y = .agg (natC u p)) (h : wpList Tryd.prog ops Q rest (a.put d (.agg (wholeC false u p))) w) : wpList Tryd.prog ops Q (o :: rest) a w := by
  refine wpList_buildTo hg 69 _ ho d hd (wholeC false u p) ?_ h
  have e : (Array.map (fun (i, x) => (i, a.eval x)) #[(1, y)]).toList = [(1, a.eval y)] := by simp
  rw [e, hy]
  exact built_whole1 u p hp
/-- A row of whatever struct is written whole. -/
theorem store_rowT {ops : Array Oper} {rest : List Oper} {o : Oper} {a : Act} {w : World} {Q : Exit → Act → World → Prop} (hgd : o.guard = none) (T : TypeId) (x y : Operand) (ho : o.op = .store T x y) (hd : o.dst = none)
    (b : Nat) (cs : Array Value) (hx : a.eval x = .pointer (some ⟨b, 0, none⟩)) (hy : a.eval y = .agg cs) (c0 : Array Value) (hN : RowAt w b T c0) (hi : (Tryd.prog.info? T).map (·.size) = some cs.size) (h0 : c0.size = cs.size) (hone : cs.all (·.oneCell') = true)
    (h : ∀ w', RowAt w' b T cs → w.grownBy w' (some b) → w'.heap.size = w.heap.size → wpList Tryd.prog ops Q rest a w') : wpList Tryd.prog ops Q (o :: rest) a w := by
  refine wpList_store_row hgd T x y ho b cs hx hy T c0 hN hi h0 hone ?_
  rw [hd]
  exact h _ (setRow_heap w b _ _ _ _ hN) ⟨rfl, rfl, rfl, by simp, fun k _ hne => setRow_other w b k _ (by intro e; exact hne (by rw [e]))⟩ (by simp)
theorem store_cls {ops : Array Oper} {rest : List Oper} {o : Oper} {a : Act} {w : World} {Q : Exit → Act → World → Prop} (hgd : o.guard = none) (x y : Operand) (ho : o.op = .store 64 x y) (hd : o.dst = none)
    (b : Nat) (u : Int) (p : List Int) (v : Int) (q : List Int) (hx : a.eval x = .pointer (some ⟨b, 0, none⟩)) (hy : a.eval y = .agg (clsC u p v q)) (u0 : Int) (p0 : List Int) (v0 : Int) (q0 : List Int) (hN : ClsAt w b u0 p0 v0 q0) (h0 : p0.length = 204) (h0' : q0.length = 204) (hl : p.length = 204) (hm : q.length = 204)
    (h : ∀ w', ClsAt w' b u p v q → w.grownBy w' (some b) → w'.heap.size = w.heap.size → wpList Tryd.prog ops Q rest a w') : wpList Tryd.prog ops Q (o :: rest) a w :=
  store_rowT hgd 64 x y ho hd b _ hx hy _ hN (cls_info u p v q hl hm) (by rw [cls_len _ _ _ _ h0 h0', cls_len _ _ _ _ hl hm]) (cls_one _ _ _ _) h
theorem res_cls_tmp {fn : Func} {x u : Tmp} (h : fn.results = #[.cell x 64, .tmp u]) (tmps : Array Value) (w : World) (b : Nat) (n : Int) (p : List Int) (m : Int) (q : List Int) (v : Value)
    (hp : tmps.getD x undef = .pointer (some ⟨b, 0, none⟩)) (hv : tmps.getD u undef = v) (hN : ClsAt w b n p m q) (hl : p.length = 204) (hm : q.length = 204) : (results fn tmps).run Tryd.prog w = .ok (.tuple #[.agg (clsC n p m q), v]) w := by
  rw [results_cell_tmp h, hp, hv]
  simp only [asAddr, Sem.run_pure, Result.andThen, run_loadVar_row w b 64 64 (clsC n p m q) (0, 0) _ hN Tryd.underlying64 rfl (cls_info n p m q hl hm)]
end Go.Proofs.YthbnacikomimfaaDoor

/-
  What joined of impl's classes answers.
-/
namespace Go.Proofs.YthbnacikomimfaaDoor
open Go.RowKit
set_option linter.unusedVariables false

/-- What joined answers. -/
def JoinAns (c M r m : Nat) (e : Ending) : Prop :=
  ((m = 0 ∨ ¬ M * m < 10 ^ 600 ∨ ¬ Nat.gcd M m = 1) ∧ e = .returned (.tuple #[.agg (clsC 0 zP 0 zP), .bool false])) ∨
  ((m ≠ 0 ∧ M * m < 10 ^ 600 ∧ Nat.gcd M m = 1) ∧ ∃ (K i j : Nat) (p q : List Int), (K : Int) = (((r : Int) - (c : Int)) * (bz m M 1 0 0 1).2.1) % (m : Int) ∧ e = .returned (.tuple #[.agg (clsC i p j q), .bool true]) ∧ Rep (c + M * K) i p ∧ Rep (M * m) j q)

/-- A nat is read under a condition that holds. -/
theorem load_nat_on {ops : Array Oper} {rest : List Oper} {o : Oper} {a : Act} {w : World} {Q : Exit → Act → World → Prop} (hw : Region.wanted o (yielded ops a.tmps) = true) (x : Operand) (ho : o.op = .load 40 x)
    (b : Nat) (hx : a.eval x = .pointer (some ⟨b, 0, none⟩)) (u : Int) (p : List Int) (hN : NatAt w b u p) (hl : p.length = 204)
    (h : wpList Tryd.prog ops Q rest (a.put o.dst (.agg (natC u p))) w) : wpList Tryd.prog ops Q (o :: rest) a w := by
  refine wpList_step fun K hK => ?_
  simp only [hw, if_true]
  unfold Oper.wp
  rw [run_nat0 x ho b hx u p hl hN]
  simp only [Oper.upon]
  exact hK _ _ h
theorem held_store_cls {ops : Array Oper} {Q : Exit → Act → World → Prop} {md : Region.Mode} {S : World → Prop} {o : Oper} {fuel : Nat} {listed : Array Bool} {a : Act} {w : World} (i : Nat) (hr : Region.ready md ops listed = [i]) (hi : ops[i]? = some o) (hw : Region.wanted o (yielded ops a.tmps) = true) (x y : Operand) (ho : o.op = .store 64 x y) (hd : o.dst = none)
    (b : Nat) (u : Int) (p : List Int) (v : Int) (q : List Int) (hx : a.eval x = .pointer (some ⟨b, 0, none⟩)) (hy : a.eval y = .agg (clsC u p v q)) (u0 : Int) (p0 : List Int) (v0 : Int) (q0 : List Int) (hN : ClsAt w b u0 p0 v0 q0) (h0 : p0.length = 204) (h0' : q0.length = 204) (hl : p.length = 204) (hm : q.length = 204)
    (h : ∀ w', ClsAt w' b u p v q → w.grownBy w' (some b) → w'.heap.size = w.heap.size → S w' ∧ wpAnyH Tryd.prog md ops Q S fuel (listed.setIfInBounds i true) a w') : wpAnyH Tryd.prog md ops Q S (fuel + 1) listed a w := by
  refine wpAnyH_ready hr (by simp) (AllReadyH.cons hi (fun K hK => ?_) AllReadyH.nil)
  rw [if_pos hw]
  refine wp_store_row 64 x y ho b (clsC u p v q) hx hy 64 (clsC u0 p0 v0 q0) hN (cls_info u p v q hl hm) (by rw [cls_len _ _ _ _ h0 h0', cls_len _ _ _ _ hl hm]) (cls_one _ _ _ _) ?_
  rw [hd]
  have := h _ (setRow_heap w b _ _ _ _ hN) ⟨rfl, rfl, rfl, by simp, fun k _ hne => setRow_other w b k _ (by intro e; exact hne (by rw [e]))⟩ (by simp)
  exact hK.out _ _ this.1 (fun _ => this.2)
theorem abs_lt {r c T : Nat} (h1 : r < T) (h2 : c < T) : ((r : Int) - (c : Int)).natAbs < T := by omega
theorem neg_val (z x : Int) {i : Nat} {s : List Int} (hR : Rep (z.natAbs * x.natAbs) i s) : sg ((decide (z < 0) != decide (x < 0)) && decide (0 < i)) (z.natAbs * x.natAbs) = z * x := by
  by_cases h0 : z.natAbs * x.natAbs = 0
  · have : z * x = 0 := Int.natAbs_eq_zero.1 (by rw [Int.natAbs_mul]; exact h0)
    rw [h0, this]; unfold sg; simp
  · have hi : 0 < i := Nat.pos_of_ne_zero (fun h => h0 (hR.zero_iff.1 h))
    rw [decide_eq_true hi, Bool.and_true, show (decide (z < 0) != decide (x < 0)) = (decide (z < 0) ^^ decide (x < 0)) by cases decide (z < 0) <;> cases decide (x < 0) <;> rfl, sg_mul, sg_of, sg_of]
theorem modZ_lt (g : Bool) (s m : Nat) (hm : 0 < m) : modZ g s m < m := by
  have := modZ_eq g s m hm
  have h2 := Int.emod_lt_of_pos (if g then -(s : Int) else (s : Int)) (show (0 : Int) < (m : Int) by omega)
  omega
theorem less_nat {r c k j : Nat} {p q : List Int} (w : World) (hP : Rep r k p) (hQ : Rep c j q) (hk : k ≤ 201) (hj : j ≤ 201) :
    Calls Tryd.prog 66 #[.agg (wholeC false k p), .agg (wholeC false j q)] w fun e w' => ∃ (i : Nat) (s : List Int), e = .returned (.agg (wholeC (decide ((r : Int) - (c : Int) < 0)) i s)) ∧ Rep ((r : Int) - (c : Int)).natAbs i s ∧ Below w.heap.size w w' := by
  have := less_any (r : Int) (c : Int) false w (by rw [Int.natAbs_natCast]; exact hP) hQ (by unfold sg; simp) hk hj
  rwa [show decide ((r : Int) < 0) = false by simp] at this

set_option maxHeartbeats 4000000 in
set_option maxRecDepth 100000 in
theorem joined_any {c M r m k1 k2 k3 k4 : Nat} {p1 p2 p3 p4 : List Int} (w : World) (h1 : Rep c k1 p1) (h2 : Rep M k2 p2) (h3 : Rep r k3 p3) (h4 : Rep m k4 p4) (hk1 : k1 ≤ 100) (hk2 : k2 ≤ 100) (hk3 : k3 ≤ 100) (hk4 : k4 ≤ 100) (hc : c < M) :
    Calls Tryd.prog 39 #[.agg (clsC k1 p1 k2 p2), .agg (natC k3 p3), .agg (natC k4 p4)] w fun e w' => JoinAns c M r m e ∧ Below w.heap.size w w' := by
  have hz := zero_nat.1
  have hzc := zero_cls.1
  have hzb := zero_comb.1
  have hzw := zero_whole.1
  have l1 := h1.len
  have l2 := h2.len
  have l3 := h3.len
  have l4 := h4.len
  have A := ((RowAt.old (ClsAt.new w k1 p1 k2 p2) (.cells (natC k3 p3) 40) |> fun h => RowAt.old h (.cells (natC k4 p4) 40)) |> fun h => RowAt.old h (.cells (clsC 0 zP 0 zP) 64))
  have B := ((NatAt.new (w.alloc (.cells (clsC k1 p1 k2 p2) 64)) k3 p3).old (.cells (natC k4 p4) 40)).old (.cells (clsC 0 zP 0 zP) 64)
  have C := (NatAt.new ((w.alloc (.cells (clsC k1 p1 k2 p2) 64)).alloc (.cells (natC k3 p3) 40)) k4 p4).old (.cells (clsC 0 zP 0 zP) 64)
  have D := ClsAt.new (((w.alloc (.cells (clsC k1 p1 k2 p2) 64)).alloc (.cells (natC k3 p3) 40)).alloc (.cells (natC k4 p4) 40)) 0 zP 0 zP
  have hB : Below w.heap.size w ((((w.alloc (.cells (clsC k1 p1 k2 p2) 64)).alloc (.cells (natC k3 p3) 40)).alloc (.cells (natC k4 p4) 40)).alloc (.cells (clsC 0 zP 0 zP) 64)) := ((((Below.refl _ _).alloc (Nat.le_refl _) _).alloc (by first | (simp; done) | (simp; omega)) _).alloc (by first | (simp; done) | (simp; omega)) _).alloc (by first | (simp; done) | (simp; omega)) _
  have hws : ((((w.alloc (.cells (clsC k1 p1 k2 p2) 64)).alloc (.cells (natC k3 p3) 40)).alloc (.cells (natC k4 p4) 40)).alloc (.cells (clsC 0 zP 0 zP) 64)).heap.size = w.heap.size + 1 + 1 + 1 + 1 := by simp
  simp only [World.size_alloc] at B C D
  have HP := hide (And.intro h1 (And.intro h2 (And.intro h3 h4)))
  have HC := hide hc
  clear h1 h2 h3 h4 hc
  go_enter Tryd.func39, Tryd.ntmps39
  generalize hw0 : (((w.alloc (.cells (clsC k1 p1 k2 p2) 64)).alloc (.cells (natC k3 p3) 40)).alloc (.cells (natC k4 p4) 40)).alloc (.cells (clsC 0 zP 0 zP) 64) = w0 at A B C D hB hws
  go_wp2_with (first | (refine load_mid_nat rfl (.tmp 12) rfl w.heap.size 205 rfl k2 p2 (ClsAt.modulus A l1) l2 ?_) | (refine load_nat rfl (.tmp 5) rfl (w.heap.size + 1 + 1) rfl k4 p4 C l4 ?_))
  clear hw0
  refine (times_any _ HP.out.2.1 HP.out.2.2.2 hk2 hk4).mono ?_
  rintro e w1 ⟨i5, r5, rfl, hR5, hW1⟩
  have l5 := hR5.len
  have hs1 := hW1.size
  have A1 : ClsAt w1 w.heap.size k1 p1 k2 p2 := RowAt.below A hW1 (by omega)
  have B1 : NatAt w1 (w.heap.size + 1) k3 p3 := B.below hW1 (by omega)
  have C1 : NatAt w1 (w.heap.size + 1 + 1) k4 p4 := C.below hW1 (by omega)
  have D1 : ClsAt w1 (w.heap.size + 1 + 1 + 1) 0 zP 0 zP := RowAt.below D hW1 (by omega)
  have hB1 : Below w.heap.size w w1 := hB.trans (hW1.mono (by omega))
  have hs1' : w.heap.size + 1 + 1 + 1 + 1 ≤ w1.heap.size := by omega
  have E1 := NatAt.new w1 0 zP
  have HR5 := hide hR5
  clear A B C D hB hW1 hR5 hws hs1
  by_cases hm : (k4 : Int) = 0
  · have HE : Hid (JoinAns c M r m (.returned (.tuple #[.agg (clsC 0 zP 0 zP), .bool false]))) := .inl ⟨.inl (HP.out.2.2.2.zero_iff.1 (by omega)), rfl⟩
    go_wp2_with (first | (refine store_nat rfl (.tmp 8) _ rfl rfl w1.heap.size i5 r5 rfl rfl 0 zP E1 zP_len l5 ?_; intro w2 hN2 hg2 hs2; have hused : w2.cell? ⟨w.heap.size + 1 + 1, 0, none⟩ = some (.int .i64 (k4 : Int)) := ((C1.old _).grown hg2 (by simp; omega)).c0) | (refine build_cls0 rfl rfl _ rfl ?_) | (refine store_cls rfl _ _ rfl rfl (w.heap.size + 1 + 1 + 1) 0 zP 0 zP rfl rfl 0 zP 0 zP (RowAt.grown (RowAt.old D1 _) hg2 (by simp; omega)) zP_len zP_len zP_len zP_len ?_; intro w3 hN3 hg3 hs3))
    have hB2 : Below w.heap.size w w2 := (hB1.alloc hB1.size _).grown hg2 (by simp; have := hB1.size; omega) (by intro k hk; cases hk; have := hB1.size; omega)
    refine bodyPost_ret (res_cls_tmp Tryd.results39 _ _ (w.heap.size + 1 + 1 + 1) _ _ _ _ _ rfl rfl hN3 zP_len zP_len) rfl ⟨HE.out, hB2.grown hg3 hB2.size (by intro k hk; cases hk; omega)⟩
  · have HBB : Hid (((k4 : Int) == 0) = false) := by unfold Hid; simpa using hm
    go_wp2_with (first | (refine store_nat rfl (.tmp 8) _ rfl rfl w1.heap.size i5 r5 rfl rfl 0 zP E1 zP_len l5 ?_; intro w2 hN2 hg2 hs2; have hused : w2.cell? ⟨w.heap.size + 1 + 1, 0, none⟩ = some (.int .i64 (k4 : Int)) := ((C1.old _).grown hg2 (by simp; omega)).c0) | (rw [HBB.out]; refine load_nat_on rfl (.tmp 8) rfl w1.heap.size rfl i5 r5 hN2 l5 ?_))
    have A2 : ClsAt w2 w.heap.size k1 p1 k2 p2 := RowAt.grown (RowAt.old A1 _) hg2 (by simp; omega)
    have B2 : NatAt w2 (w.heap.size + 1) k3 p3 := (B1.old _).grown hg2 (by simp; omega)
    have C2 : NatAt w2 (w.heap.size + 1 + 1) k4 p4 := (C1.old _).grown hg2 (by simp; omega)
    have D2 : ClsAt w2 (w.heap.size + 1 + 1 + 1) 0 zP 0 zP := RowAt.grown (RowAt.old D1 _) hg2 (by simp; omega)
    have hB2 : Below w.heap.size w w2 := (hB1.alloc hB1.size _).grown hg2 (by simp; have := hB1.size; omega) (by intro k hk; cases hk; have := hB1.size; omega)
    have hs2' : w1.heap.size + 1 ≤ w2.heap.size := by rw [hs2]; simp
    clear A1 B1 C1 D1 E1 hB1 hg2 hs2 hused
    refine (fits_any i5 r5 _).mono ?_
    rintro e w3 ⟨rfl, hW3⟩
    have hs3 := hW3.size
    have A3 : ClsAt w3 w.heap.size k1 p1 k2 p2 := RowAt.below A2 hW3 (by omega)
    have B3 : NatAt w3 (w.heap.size + 1) k3 p3 := B2.below hW3 (by omega)
    have C3 : NatAt w3 (w.heap.size + 1 + 1) k4 p4 := C2.below hW3 (by omega)
    have D3 : ClsAt w3 (w.heap.size + 1 + 1 + 1) 0 zP 0 zP := RowAt.below D2 hW3 (by omega)
    have E3 : NatAt w3 w1.heap.size i5 r5 := hN2.below hW3 (by omega)
    have hB3 : Below w.heap.size w w3 := hB2.trans (hW3.mono hB2.size)
    have hs3' : w1.heap.size + 1 ≤ w3.heap.size := by omega
    have HM : Hid (m ≠ 0) := fun h => hm (by have := HP.out.2.2.2.zero_iff.2 h; omega)
    clear A2 B2 C2 D2 hN2 hB2 hs2' hW3 hs3
    by_cases hf : i5 ≤ 100
    · rw [decide_eq_true hf]
      have HF : Hid (M * m < 10 ^ 600) := HR5.out.fits.1 hf
      go_wp2_with (first | (refine load_mid_nat rfl (.tmp 25) rfl w.heap.size 205 rfl k2 p2 (ClsAt.modulus A3 l1) l2 ?_) | (refine load_nat rfl (.tmp 5) rfl (w.heap.size + 1 + 1) rfl k4 p4 C3 l4 ?_))
      refine (bezout_any w3 HP.out.2.1 HP.out.2.2.2 (HP.out.2.1.fits.1 hk2) (HP.out.2.2.2.fits.1 hk4)).mono ?_
      rintro e w4 ⟨⟨cb, rfl, hok, hcx, hcy, hcxb, hcyb, hgb⟩, hW4⟩
      have hs4 := hW4.size
      have A4 : ClsAt w4 w.heap.size k1 p1 k2 p2 := RowAt.below A3 hW4 (by omega)
      have B4 : NatAt w4 (w.heap.size + 1) k3 p3 := B3.below hW4 (by omega)
      have C4 : NatAt w4 (w.heap.size + 1 + 1) k4 p4 := C3.below hW4 (by omega)
      have D4 : ClsAt w4 (w.heap.size + 1 + 1 + 1) 0 zP 0 zP := RowAt.below D3 hW4 (by omega)
      have E4 : NatAt w4 w1.heap.size i5 r5 := E3.below hW4 (by omega)
      have hB4 : Below w.heap.size w w4 := hB3.trans (hW4.mono hB3.size)
      have F4 := RowAt.new w4 94 (combC 0 zP false 0 zP false 0 zP)
      have lk := hok.r.len
      have HK := hide (And.intro hok (And.intro hcx (And.intro hcxb hgb)))
      have hs4' : w1.heap.size + 1 ≤ w4.heap.size := by omega
      clear A3 B3 C3 D3 E3 hB3 hW4 hs4 hs3' hcx hcy hcxb hcyb hgb hok
      go_wp2_with (first | (refine store_rowT rfl 94 (.tmp 9) _ rfl rfl w4.heap.size cb.C rfl rfl _ F4 HK.out.1.info (by rw [HK.out.1.size]; exact comb_len _ _ _ _ _ _ _ _ zP_len zP_len zP_len) (Cb.one cb) ?_; intro w5 hN5 hg5 hs5) | (refine load_mid_nat rfl (.tmp 29) rfl w4.heap.size 0 rfl cb.k cb.p (CombAt.sum (Cb.At.comb hN5)) lk ?_))
      have A5 : ClsAt w5 w.heap.size k1 p1 k2 p2 := RowAt.grown (RowAt.old A4 _) hg5 (by simp; omega)
      have B5 : NatAt w5 (w.heap.size + 1) k3 p3 := (B4.old _).grown hg5 (by simp; omega)
      have C5 : NatAt w5 (w.heap.size + 1 + 1) k4 p4 := (C4.old _).grown hg5 (by simp; omega)
      have D5 : ClsAt w5 (w.heap.size + 1 + 1 + 1) 0 zP 0 zP := RowAt.grown (RowAt.old D4 _) hg5 (by simp; omega)
      have E5 : NatAt w5 w1.heap.size i5 r5 := (E4.old _).grown hg5 (by simp; omega)
      have hB5 : Below w.heap.size w w5 := (hB4.alloc hB4.size _).grown hg5 (by simp; have := hB4.size; omega) (by intro k hk; cases hk; have := hB4.size; omega)
      have hs5' : w4.heap.size + 1 ≤ w5.heap.size := by rw [hs5]; simp
      clear A4 B4 C4 D4 E4 F4 hB4 hg5 hs5
      refine (isOne_any w5 HK.out.1.r).mono ?_
      rintro e w6 ⟨rfl, hW6⟩
      have hs6 := hW6.size
      have A6 : ClsAt w6 w.heap.size k1 p1 k2 p2 := RowAt.below A5 hW6 (by omega)
      have B6 : NatAt w6 (w.heap.size + 1) k3 p3 := B5.below hW6 (by omega)
      have C6 : NatAt w6 (w.heap.size + 1 + 1) k4 p4 := C5.below hW6 (by omega)
      have D6 : ClsAt w6 (w.heap.size + 1 + 1 + 1) 0 zP 0 zP := RowAt.below D5 hW6 (by omega)
      have E6 : NatAt w6 w1.heap.size i5 r5 := E5.below hW6 (by omega)
      have F6 : Cb.At w6 w4.heap.size cb := RowAt.below hN5 hW6 (by omega)
      have hB6 : Below w.heap.size w w6 := hB5.trans (hW6.mono hB5.size)
      have hs6' : w4.heap.size + 1 ≤ w6.heap.size := by omega
      clear A5 B5 C5 D5 E5 hN5 hB5 hs5' hW6 hs6
      by_cases hg : (bz m M 1 0 0 1).1 = 1
      · rw [decide_eq_true hg]
        have HG : Hid (Nat.gcd M m = 1) := by rw [(bz_eq M m).2] at hg; exact hg
        clear hg
        go_wp2_with (first | (refine load_nat rfl (.tmp 4) rfl (w.heap.size + 1) rfl k3 p3 B6 l3 ?_) | (refine build_whole1 rfl (.tmp 34) rfl _ rfl k3 p3 l3 rfl ?_) | (refine load_mid_nat rfl (.tmp 36) rfl w.heap.size 0 rfl k1 p1 (ClsAt.rest A6) l1 ?_) | (refine build_whole1 rfl (.tmp 37) rfl _ rfl k1 p1 l1 rfl ?_))
        refine (less_nat w6 HP.out.2.2.1 HP.out.1 (by omega) (by omega)).mono ?_
        rintro e w7 ⟨i7, r7, rfl, hR7, hW7⟩
        have l7 := hR7.len
        have hs7 := hW7.size
        have A7 : ClsAt w7 w.heap.size k1 p1 k2 p2 := RowAt.below A6 hW7 (by omega)
        have C7 : NatAt w7 (w.heap.size + 1 + 1) k4 p4 := C6.below hW7 (by omega)
        have D7 : ClsAt w7 (w.heap.size + 1 + 1 + 1) 0 zP 0 zP := RowAt.below D6 hW7 (by omega)
        have E7 : NatAt w7 w1.heap.size i5 r5 := E6.below hW7 (by omega)
        have F7 : Cb.At w7 w4.heap.size cb := RowAt.below F6 hW7 (by omega)
        have hB7 : Below w.heap.size w w7 := hB6.trans (hW7.mono hB6.size)
        have G7 := WholeAt.new w7 false 0 zP
        have hi7 : i7 ≤ 100 := hR7.fits.2 (by have h1 := HP.out.2.2.1.fits.1 hk3; have h2 := HP.out.1.fits.1 hk1; exact abs_lt h1 h2)
        have hkx : cb.k1 ≤ 100 := HK.out.1.x.fits.2 HK.out.2.2.1
        have lx := HK.out.1.x.len
        have HR7 := hide hR7
        have hs7' : w4.heap.size + 1 ≤ w7.heap.size := by omega
        clear A6 B6 C6 D6 E6 F6 hB6 hW7 hs7 hR7 hs6'
        obtain ⟨g7, hg7⟩ : ∃ g7, g7 = decide ((r : Int) - (c : Int) < 0) := ⟨_, rfl⟩
        rw [← hg7]
        have HG7 := hide hg7
        clear hg7
        go_wp2_with (refine store_whole rfl (.tmp 10) _ rfl rfl w7.heap.size g7 i7 r7 rfl rfl false 0 zP G7 zP_len l7 ?_; intro w8 hN8 hg8 hs8)
        have A8 : ClsAt w8 w.heap.size k1 p1 k2 p2 := RowAt.grown (RowAt.old A7 _) hg8 (by simp; omega)
        have C8 : NatAt w8 (w.heap.size + 1 + 1) k4 p4 := (C7.old _).grown hg8 (by simp; omega)
        have D8 : ClsAt w8 (w.heap.size + 1 + 1 + 1) 0 zP 0 zP := RowAt.grown (RowAt.old D7 _) hg8 (by simp; omega)
        have E8 : NatAt w8 w1.heap.size i5 r5 := (E7.old _).grown hg8 (by simp; omega)
        have F8 : Cb.At w8 w4.heap.size cb := RowAt.grown (RowAt.old F7 _) hg8 (by simp; omega)
        have hB8 : Below w.heap.size w w8 := (hB7.alloc hB7.size _).grown hg8 (by simp; have := hB7.size; omega) (by intro k hk; cases hk; have := hB7.size; omega)
        have hs8' : w7.heap.size + 1 = w8.heap.size := by rw [hs8]; simp
        clear A7 C7 D7 E7 F7 G7 hB7 hg8 hs8
        refine float_begin (fun w' => WholeAt w' w7.heap.size g7 i7 r7 ∧ Cb.At w' w4.heap.size cb ∧ NatAt w' (w.heap.size + 1 + 1) k4 p4) 6 11 40 (natC 0 zP) w8.heap.size 7 (by kernel_rfl) rfl ?_
        have hS : WholeAt w8.drew w7.heap.size g7 i7 r7 ∧ Cb.At w8.drew w4.heap.size cb ∧ NatAt w8.drew (w.heap.size + 1 + 1) k4 p4 := ⟨hN8, F8, C8⟩
        refine float_val 0 40 rfl rfl (by kernel_rfl) (by kernel_rfl) (by kernel_rfl) (by kernel_rfl) (by kernel_rfl) noPanic_put (fun _ => rfl) (by decide) (by decide) (.agg (wholeC g7 i7 r7)) (fun _ h => run_row_whole _ rfl w7.heap.size rfl g7 i7 r7 h.1 l7) (fun _ => fun _ h => run_row_whole _ rfl w7.heap.size rfl g7 i7 r7 h.1 l7) (fun _ h => ⟨RowAt.below hS.1 h (by show _ < w8.heap.size; omega), RowAt.below hS.2.1 h (by show _ < w8.heap.size; omega), hS.2.2.below h (by show _ < w8.heap.size; omega)⟩) ?_
        simp only [Act.put, List.setIfInBounds_toArray, List.set_cons_zero, List.set_cons_succ]
        refine float_val 1 41 rfl rfl (by kernel_rfl) (by kernel_rfl) (by kernel_rfl) (by kernel_rfl) (by kernel_rfl) noPanic_put (fun _ => rfl) (by decide) (by decide) (.pointer (some ⟨w4.heap.size, 205, none⟩)) (fun _ _ => by go_simp) (fun _ => fun _ _ => by go_simp) (fun _ h => ⟨RowAt.below hS.1 h (by show _ < w8.heap.size; omega), RowAt.below hS.2.1 h (by show _ < w8.heap.size; omega), hS.2.2.below h (by show _ < w8.heap.size; omega)⟩) ?_
        simp only [Act.put, List.setIfInBounds_toArray, List.set_cons_zero, List.set_cons_succ]
        refine float_val 2 42 rfl rfl (by kernel_rfl) (by kernel_rfl) (by kernel_rfl) (by kernel_rfl) (by kernel_rfl) noPanic_put (fun _ => rfl) (by decide) (by decide) (.agg (wholeC (decide (cb.x < 0)) cb.k1 cb.p1)) (fun _ h => run_mid_whole _ rfl w4.heap.size 205 rfl (decide (cb.x < 0)) cb.k1 cb.p1 (CombAt.x (Cb.At.comb h.2.1) lk) lx) (fun _ => fun _ h => run_mid_whole _ rfl w4.heap.size 205 rfl (decide (cb.x < 0)) cb.k1 cb.p1 (CombAt.x (Cb.At.comb h.2.1) lk) lx) (fun _ h => ⟨RowAt.below hS.1 h (by show _ < w8.heap.size; omega), RowAt.below hS.2.1 h (by show _ < w8.heap.size; omega), hS.2.2.below h (by show _ < w8.heap.size; omega)⟩) ?_
        simp only [Act.put, List.setIfInBounds_toArray, List.set_cons_zero, List.set_cons_succ]
        refine float_val 4 44 rfl rfl (by kernel_rfl) (by kernel_rfl) (by kernel_rfl) (by kernel_rfl) (by kernel_rfl) noPanic_put (fun _ => rfl) (by decide) (by decide) (.agg (natC k4 p4)) (fun _ h => run_nat0 _ rfl (w.heap.size + 1 + 1) rfl k4 p4 l4 h.2.2) (fun _ => fun _ h => run_nat0 _ rfl (w.heap.size + 1 + 1) rfl k4 p4 l4 h.2.2) (fun _ h => ⟨RowAt.below hS.1 h (by show _ < w8.heap.size; omega), RowAt.below hS.2.1 h (by show _ < w8.heap.size; omega), hS.2.2.below h (by show _ < w8.heap.size; omega)⟩) ?_
        simp only [Act.put, List.setIfInBounds_toArray, List.set_cons_zero, List.set_cons_succ]
        refine float_call 3 43 rfl rfl rfl rfl rfl (fun _ => rfl) (fun _ => rfl) (by kernel_rfl) (by kernel_rfl) (by decide) (by decide) hz (by show _ ≤ w8.heap.size; omega) 67 #[.agg (wholeC g7 i7 r7), .agg (wholeC (decide (cb.x < 0)) cb.k1 cb.p1)] (fun _ => by go_simp) (fun _ _ => by go_simp) (fun _ h => ⟨RowAt.below hS.1 h (by show _ < w8.heap.size; omega), RowAt.below hS.2.1 h (by show _ < w8.heap.size; omega), hS.2.2.below h (by show _ < w8.heap.size; omega)⟩) _ (fun w' _ => wtimes_any g7 (decide (cb.x < 0)) w' HR7.out HK.out.1.x hi7 hkx) ?_
        rintro wx e w9 hWx ⟨i9, r9, rfl, hR9, hW9'⟩
        have hW9 : Below w8.heap.size w8 w9 := (⟨hWx.os, hWx.tape, hWx.output, hWx.size, hWx.block⟩ : Below w8.heap.size w8 wx).trans (hW9'.mono hWx.size)
        have hs9 := hW9.size
        have hi9 : i9 ≤ 202 := Nat.le_trans (HR7.out.mul_used HK.out.1.x hR9) (by omega)
        have HR9 := hide hR9
        refine ⟨_, rfl, hW9', ?_⟩
        simp only [Act.put, List.setIfInBounds_toArray, List.set_cons_zero, List.set_cons_succ]
        refine float_call 5 45 rfl rfl rfl rfl rfl (fun _ => rfl) (fun _ => rfl) (by kernel_rfl) (by kernel_rfl) (by decide) (by decide) hz (by omega) 68 #[.agg (wholeC ((g7 != decide (cb.x < 0)) && decide (0 < i9)) i9 r9), .agg (natC k4 p4)] (fun _ => by go_simp) (fun _ _ => by go_simp) (fun _ h => ⟨RowAt.below (RowAt.below hN8 hW9 (by omega)) h (by omega), RowAt.below (RowAt.below F8 hW9 (by omega)) h (by omega), (C8.below hW9 (by omega)).below h (by omega)⟩) _ (fun w' _ => wmodulo_any _ w' HR9.out HP.out.2.2.2 HM.out hi9 (by omega)) ?_
        rintro wy e w10 hWy ⟨i10, r10, rfl, hR10, hW10'⟩
        have hW10 : Below w8.heap.size w8 w10 := hW9.trans ((hWy.trans (hW10'.mono hWy.size)).mono hs9)
        have hs10 := hW10.size
        have l10 := hR10.len
        obtain ⟨K, hK⟩ : ∃ K, K = modZ ((g7 != decide (cb.x < 0)) && decide (0 < i9)) (((r : Int) - (c : Int)).natAbs * cb.x.natAbs) m := ⟨_, rfl⟩
        rw [← hK] at hR10
        have hKm : K < m := by rw [hK]; exact modZ_lt _ _ _ (Nat.pos_of_ne_zero HM.out)
        have HKE : Hid ((K : Int) = (((r : Int) - (c : Int)) * (bz m M 1 0 0 1).2.1) % (m : Int)) := by
          unfold Hid
          rw [hK, modZ_eq _ _ _ (Nat.pos_of_ne_zero HM.out), ← HK.out.2.1, HG7.out]
          exact congrArg (· % (m : Int)) (neg_val ((r : Int) - (c : Int)) cb.x HR9.out)
        have hi10 : i10 ≤ 100 := Nat.le_trans (hR10.cnt_le HP.out.2.2.2 (Nat.le_of_lt hKm)) hk4
        have HR10 := hide hR10
        clear hK hKm hR10
        refine ⟨_, rfl, hW10', ?_⟩
        simp only [Act.put, List.setIfInBounds_toArray, List.set_cons_zero, List.set_cons_succ]
        refine float_end rfl rfl rfl (fun _ => rfl) (by kernel_rfl) hz (by omega) (fun _ h => ⟨RowAt.below (RowAt.below hN8 hW10 (by omega)) h (by omega), RowAt.below (RowAt.below F8 hW10 (by omega)) h (by omega), (C8.below hW10 (by omega)).below h (by omega)⟩) ?_
        intro wp b11 hWp hRp hb11
        simp only [Act.put, List.setIfInBounds_toArray, List.set_cons_zero, List.set_cons_succ]
        have hVp : Below w8.heap.size w8 wp := hW10.trans (hWp.mono hs10)
        refine held_store 7 (by kernel_rfl) rfl rfl _ _ rfl rfl b11 i10 r10 rfl rfl 0 zP hRp zP_len l10 ?_
        intro w11 hN11 hg11 hs11
        have A11 : ClsAt w11 w.heap.size k1 p1 k2 p2 := RowAt.grown (RowAt.below A8 hVp (by omega)) hg11 (by simp; omega)
        have D11 : ClsAt w11 (w.heap.size + 1 + 1 + 1) 0 zP 0 zP := RowAt.grown (RowAt.below D8 hVp (by omega)) hg11 (by simp; omega)
        have E11 : NatAt w11 w1.heap.size i5 r5 := (E8.below hVp (by omega)).grown hg11 (by simp; omega)
        have hB11 : Below w.heap.size w w11 := (hB8.trans (hVp.mono hB8.size)).grown hg11 (by have := hVp.size; have := hB8.size; omega) (by intro k hk; cases hk; have := hB8.size; omega)
        refine ⟨⟨RowAt.grown (RowAt.below hN8 hVp (by omega)) hg11 (by simp; omega), RowAt.grown (RowAt.below F8 hVp (by omega)) hg11 (by simp; omega), (C8.below hVp (by omega)).grown hg11 (by simp; omega)⟩, ?_⟩
        refine wpAnyH_done (by kernel_rfl) ?_ _
        refine NoPanic.normal ?_
        have hb11l := hN11.lt
        have hs11' : w8.heap.size ≤ w11.heap.size := by rw [hs11]; exact hVp.size
        clear hS hW9 hW9' hWx hW10 hW10' hWy hWp hRp hVp hg11 hs11 hR9 A8 C8 D8 E8 F8 hN8 hB8 hs9 hs10
        go_wp2_with fail
        refine held_begin (fun w' => ClsAt w' w.heap.size k1 p1 k2 p2 ∧ NatAt w' b11 i10 r10 ∧ NatAt w' w1.heap.size i5 r5) (by kernel_rfl) ?_
        have hS : ClsAt w11.drew w.heap.size k1 p1 k2 p2 ∧ NatAt w11.drew b11 i10 r10 ∧ NatAt w11.drew w1.heap.size i5 r5 := ⟨A11, hN11, E11⟩
        refine held_val 0 (some 46) rfl rfl (by kernel_rfl) (by kernel_rfl) (by kernel_rfl) noPanic_put rfl (.pointer (some ⟨w.heap.size, 0, none⟩)) (fun _ => by go_simp) hS ?_
        simp only [Act.put, List.setIfInBounds_toArray, List.set_cons_zero, List.set_cons_succ]
        refine held_valS 1 (some 47) rfl rfl (by kernel_rfl) (by kernel_rfl) (by kernel_rfl) noPanic_put rfl (.agg (natC k1 p1)) (fun _ h => run_mid_nat _ rfl w.heap.size 0 rfl k1 p1 (ClsAt.rest h.1) l1) hS ?_
        simp only [Act.put, List.setIfInBounds_toArray, List.set_cons_zero, List.set_cons_succ]
        refine held_val 2 (some 48) rfl rfl (by kernel_rfl) (by kernel_rfl) (by kernel_rfl) noPanic_put rfl (.pointer (some ⟨w.heap.size, 205, none⟩)) (fun _ => by go_simp) hS ?_
        simp only [Act.put, List.setIfInBounds_toArray, List.set_cons_zero, List.set_cons_succ]
        refine held_valS 3 (some 49) rfl rfl (by kernel_rfl) (by kernel_rfl) (by kernel_rfl) noPanic_put rfl (.agg (natC k2 p2)) (fun _ h => run_mid_nat _ rfl w.heap.size 205 rfl k2 p2 (ClsAt.modulus h.1 l1) l2) hS ?_
        simp only [Act.put, List.setIfInBounds_toArray, List.set_cons_zero, List.set_cons_succ]
        refine held_load 4 (some 50) rfl rfl (by kernel_rfl) (by kernel_rfl) (by kernel_rfl) noPanic_put rfl _ rfl (b11) rfl i10 r10 (fun _ h => h.2.1) l10 hS ?_
        simp only [Act.put, List.setIfInBounds_toArray, List.set_cons_zero, List.set_cons_succ]
        refine held_load 7 (some 53) rfl rfl (by kernel_rfl) (by kernel_rfl) (by kernel_rfl) noPanic_put rfl _ rfl (w1.heap.size) rfl i5 r5 (fun _ h => h.2.2) l5 hS ?_
        simp only [Act.put, List.setIfInBounds_toArray, List.set_cons_zero, List.set_cons_succ]
        refine held_call 5 (some 51) (by kernel_rfl) rfl rfl rfl 23 #[.agg (natC k2 p2), .agg (natC i10 r10)] (by go_simp) _ (times_any w11.drew HP.out.2.1 HR10.out hk2 hi10) ?_
        rintro e w12 ⟨i12, r12, rfl, hR12, hW12⟩
        have hs12 : w11.heap.size ≤ w12.heap.size := hW12.size
        have hi12 : i12 ≤ 202 := Nat.le_trans (HP.out.2.1.mul_used HR10.out hR12) (by omega)
        have hS12 : ClsAt w12 w.heap.size k1 p1 k2 p2 ∧ NatAt w12 b11 i10 r10 ∧ NatAt w12 w1.heap.size i5 r5 := ⟨RowAt.below hS.1 hW12 (by show _ < w11.heap.size; omega), hS.2.1.below hW12 (by show _ < w11.heap.size; omega), hS.2.2.below hW12 (by show _ < w11.heap.size; omega)⟩
        refine ⟨_, rfl, hS12, ?_⟩
        simp only [Act.put, List.setIfInBounds_toArray, List.set_cons_zero, List.set_cons_succ]
        refine held_call 6 (some 52) (by kernel_rfl) rfl rfl rfl 25 #[.agg (natC k1 p1), .agg (natC i12 r12)] (by go_simp) _ (plus_wide w12 HP.out.1 hR12 (by omega) hi12) ?_
        rintro e w13 ⟨i13, r13, rfl, hR13, hW13⟩
        have hs13 := hW13.size
        have l13 := hR13.len
        have hS13 : ClsAt w13 w.heap.size k1 p1 k2 p2 ∧ NatAt w13 b11 i10 r10 ∧ NatAt w13 w1.heap.size i5 r5 := ⟨RowAt.below hS12.1 hW13 (by omega), hS12.2.1.below hW13 (by omega), hS12.2.2.below hW13 (by omega)⟩
        refine ⟨_, rfl, hS13, ?_⟩
        simp only [Act.put, List.setIfInBounds_toArray, List.set_cons_zero, List.set_cons_succ]
        refine held_val 8 (some 54) rfl rfl (by kernel_rfl) (by kernel_rfl) (by kernel_rfl) noPanic_put rfl (.agg (clsC i13 r13 i5 r5)) (fun _ => run_build2 64 0 1 (.tmp 52) (.tmp 53) rfl _ _ rfl rfl _ (built_cls i13 r13 i5 r5 l13 l5)) hS13 ?_
        simp only [Act.put, List.setIfInBounds_toArray, List.set_cons_zero, List.set_cons_succ]
        have D13 : ClsAt w13 (w.heap.size + 1 + 1 + 1) 0 zP 0 zP := RowAt.below (RowAt.below (w := w11.drew) D11 hW12 (by show _ < w11.heap.size; omega)) hW13 (by omega)
        refine held_store_cls 9 (by kernel_rfl) rfl rfl _ _ rfl rfl (w.heap.size + 1 + 1 + 1) i13 r13 i5 r5 rfl rfl 0 zP 0 zP D13 zP_len zP_len l13 l5 ?_
        intro w14 hN14 hg14 hs14
        have hS14 : ClsAt w14 w.heap.size k1 p1 k2 p2 ∧ NatAt w14 b11 i10 r10 ∧ NatAt w14 w1.heap.size i5 r5 := ⟨RowAt.grown hS13.1 hg14 (by simp; omega), hS13.2.1.grown hg14 (by simp; omega), hS13.2.2.grown hg14 (by simp; omega)⟩
        refine ⟨hS14, ?_⟩
        refine held_assign 10 (some 7) (by kernel_rfl) rfl rfl _ rfl rfl _ rfl hS14 ?_
        simp only [Act.put, List.setIfInBounds_toArray, List.set_cons_zero, List.set_cons_succ]
        refine wpAnyH_done (by kernel_rfl) ?_ _
        refine NoPanic.normal ?_
        have HE : Hid (JoinAns c M r m (.returned (.tuple #[.agg (clsC i13 r13 i5 r5), .bool true]))) := .inr ⟨⟨HM.out, HF.out, HG.out⟩, K, i13, i5, r13, r5, HKE.out, rfl, hR13, HR5.out⟩
        have hB13 : Below w.heap.size w w13 := (hB11.drew.trans (hW12.mono hB11.size)).trans (hW13.mono (by have := hB11.size; omega))
        go_wp2
        refine bodyPost_ret (res_cls_tmp Tryd.results39 _ _ (w.heap.size + 1 + 1 + 1) _ _ _ _ _ rfl rfl hN14 l13 l5) rfl ⟨HE.out, hB13.grown hg14 hB13.size (by intro k hk; cases hk; omega)⟩
      · rw [decide_eq_false hg]
        have HE : Hid (JoinAns c M r m (.returned (.tuple #[.agg (clsC 0 zP 0 zP), .bool false]))) := .inl ⟨.inr (.inr (by rw [← (bz_eq M m).2]; exact hg)), rfl⟩
        clear hg
        go_wp2_with (first | (refine build_cls0 rfl rfl _ rfl ?_) | (refine store_cls rfl _ _ rfl rfl (w.heap.size + 1 + 1 + 1) 0 zP 0 zP rfl rfl 0 zP 0 zP D6 zP_len zP_len zP_len zP_len ?_; intro w9 hN9 hg9 hs9))
        refine bodyPost_ret (res_cls_tmp Tryd.results39 _ _ (w.heap.size + 1 + 1 + 1) _ _ _ _ _ rfl rfl hN9 zP_len zP_len) rfl ⟨HE.out, hB6.grown hg9 hB6.size (by intro k hk; cases hk; omega)⟩
    · rw [decide_eq_false hf]
      have HE : Hid (JoinAns c M r m (.returned (.tuple #[.agg (clsC 0 zP 0 zP), .bool false]))) := .inl ⟨.inr (.inl (fun h => hf (HR5.out.fits.2 h))), rfl⟩
      clear hf
      go_wp2_with (first | (refine build_cls0 rfl rfl _ rfl ?_) | (refine store_cls rfl _ _ rfl rfl (w.heap.size + 1 + 1 + 1) 0 zP 0 zP rfl rfl 0 zP 0 zP D3 zP_len zP_len zP_len zP_len ?_; intro w9 hN9 hg9 hs9))
      refine bodyPost_ret (res_cls_tmp Tryd.results39 _ _ (w.heap.size + 1 + 1 + 1) _ _ _ _ _ rfl rfl hN9 zP_len zP_len) rfl ⟨HE.out, hB3.grown hg9 hB3.size (by intro k hk; cases hk; omega)⟩
end Go.Proofs.YthbnacikomimfaaDoor

/-
  What impl.ChineseNat answers.
-/
namespace Go.Proofs.YthbnacikomimfaaDoor
open Go.RowKit
set_option linter.unusedVariables false

theorem readAllK (l : List ByteArray) (k : Nat) (hk : k = l.length) (b : Nat) (w : World) (h1 : 1 ≤ k) (h20 : k ≤ 20) (hs : ∀ i, i < l.length → (l.getD i default).size ≤ maxLen) (hR : RecAt w b 9 stringL l) :
    Calls Tryd.prog 37 #[.slice (some ⟨b, 0, none⟩) k k] w fun e w' => Below w.heap.size w w' ∧
      ((allGood l = true ∧ ∃ (B : Nat) (ys : List NatX), e = .returned (.tuple #[.slice (some ⟨B, 0, none⟩) k k, .bool true]) ∧ w.heap.size ≤ B ∧ RecAt w' B 40 natXL ys ∧ AllNats l ys) ∨
      (allGood l = false ∧ e = .returned (.tuple #[.slice none 0 0, .bool false]))) := by
  subst hk
  refine (readAll_any l b l.length w h1 h20 hs hR).mono fun e w' h => ?_
  rcases h with ⟨h1, B, ys, h2, h3, h4, h5, h6⟩ | ⟨h1, h2, h3⟩
  · exact ⟨h6, .inl ⟨h1, B, ys, h2, h3, h4, h5⟩⟩
  · exact ⟨h3, .inr ⟨h1, h2⟩⟩
theorem nats_get {l : List ByteArray} {ys : List NatX} (h : AllNats l ys) {i : Nat} (hi : i < l.length) : ∃ (q : Nat) (s : List Int), (∃ hp, ys.getD i default = ((q : Int), (⟨s, hp⟩ : PartsX))) ∧ Rep (dval (l.getD i default).data.toList) q s := by
  obtain ⟨k, e, r⟩ := h.2 i hi
  exact ⟨k, _, ⟨(ys.getD i default).2.2, Prod.ext e rfl⟩, r⟩
theorem join_norm {c M r m : Nat} {e : Ending} (h : JoinAns c M r m e) : ∃ (i j : Nat) (p q : List Int) (o : Bool), e = .returned (.tuple #[.agg (clsC i p j q), .bool o]) ∧ p.length = 204 ∧ q.length = 204 ∧
    ((o = false ∧ (m = 0 ∨ ¬ M * m < 10 ^ 600 ∨ ¬ Nat.gcd M m = 1)) ∨ (o = true ∧ (m ≠ 0 ∧ M * m < 10 ^ 600 ∧ Nat.gcd M m = 1) ∧ ∃ K : Nat, (K : Int) = (((r : Int) - (c : Int)) * (bz m M 1 0 0 1).2.1) % (m : Int) ∧ Rep (c + M * K) i p ∧ Rep (M * m) j q)) := by
  rcases h with ⟨h, rfl⟩ | ⟨h, K, i, j, p, q, hK, rfl, hp, hq⟩
  · exact ⟨0, 0, zP, zP, false, rfl, zP_len, zP_len, .inl ⟨rfl, h⟩⟩
  · exact ⟨i, j, p, q, true, rfl, hp.len, hq.len, .inr ⟨rfl, h, K, hK, hp, hq⟩⟩
theorem build_cls1 {ops : Array Oper} {rest : List Oper} {o : Oper} {a : Act} {w : World} {Q : Exit → Act → World → Prop} (hg : o.guard = none) (y : Operand) (ho : o.op = .build 64 #[(1, y)]) (d : Option Tmp) (hd : o.dst = d)
    (u : Int) (p : List Int) (hp : p.length = 204) (hy : a.eval y = .agg (natC u p)) (h : wpList Tryd.prog ops Q rest (a.put d (.agg (clsC 0 zP u p))) w) : wpList Tryd.prog ops Q (o :: rest) a w := by
  refine wpList_buildTo hg 64 _ ho d hd (clsC 0 zP u p) ?_ h
  have e : (Array.map (fun (i, x) => (i, a.eval x)) #[(1, y)]).toList = [(1, a.eval y)] := by simp
  rw [e, hy]
  exact built_cls1 u p hp
theorem run_cls {o : Oper} {a : Act} {w : World} (x : Operand) (ho : o.op = .load 64 x) (b : Nat) (hx : a.eval x = .pointer (some ⟨b, 0, none⟩)) (u : Int) (p : List Int) (v : Int) (q : List Int) (hN : ClsAt w b u p v q) (hl : p.length = 204) (hm : q.length = 204) :
    (execOp a.eval o).run Tryd.prog w = .ok (.value (.agg (clsC u p v q))) w := by
  unfold execOp
  simp only [ho, hx, Instr.loadAt, Instr.sureAddr, Sem.run_bind, Sem.run_pure, Result.andThen_ok, run_loadVar_row w b 64 64 (clsC u p v q) (0, 0) _ hN Tryd.underlying64 rfl (cls_info u p v q hl hm)]
theorem load_cls {ops : Array Oper} {rest : List Oper} {o : Oper} {a : Act} {w : World} {Q : Exit → Act → World → Prop} (hgd : o.guard = none) (x : Operand) (ho : o.op = .load 64 x)
    (b : Nat) (hx : a.eval x = .pointer (some ⟨b, 0, none⟩)) (u : Int) (p : List Int) (v : Int) (q : List Int) (hN : ClsAt w b u p v q) (hl : p.length = 204) (hm : q.length = 204)
    (h : wpList Tryd.prog ops Q rest (a.put o.dst (.agg (clsC u p v q))) w) : wpList Tryd.prog ops Q (o :: rest) a w :=
  wpList_load_row hgd 64 x ho b hx 64 (clsC u p v q) (0, 0) _ hN Tryd.underlying64 rfl (cls_info u p v q hl hm) h
theorem chN {rs ms : List ByteArray} (h : ¬ ChAll rs ms) : ChAns rs ms (.returned (.tuple #[.string ⟨#[]⟩, .string ⟨#[]⟩, .bool false])) := .inr ⟨h, rfl⟩

set_option maxHeartbeats 8000000 in
set_option maxRecDepth 100000 in
theorem implCh_any (rs ms : List ByteArray) (b1 b2 : Nat) (w : World) (hl1 : rs.length ≤ 1048576) (hl2 : ms.length ≤ 1048576) (hs1 : ∀ i, i < rs.length → (rs.getD i default).size ≤ maxLen) (hs2 : ∀ i, i < ms.length → (ms.getD i default).size ≤ maxLen) (hR1 : RecAt w b1 9 stringL rs) (hR2 : RecAt w b2 9 stringL ms) (hT : Tab w.heap.size w) :
    Calls Tryd.prog 11 #[.slice (some ⟨b1, 0, none⟩) rs.length rs.length, .slice (some ⟨b2, 0, none⟩) ms.length ms.length] w fun e w' => ChAns rs ms e ∧ Below w.heap.size w w' := by
  have hz := zero_nat.1
  have hzc := zero_cls.1
  have hb2 := RecAt.lt hR2
  have HT := hideT hT
  have HR1 := hideT hR1
  have HR2 := hideT hR2
  have HSZ := hideT (And.intro hs1 hs2)
  clear hR1 hR2 hs1 hs2 hT
  obtain ⟨n, hn⟩ : ∃ n, n = rs.length := ⟨_, rfl⟩
  obtain ⟨k2, hk2⟩ : ∃ k2, k2 = ms.length := ⟨_, rfl⟩
  have HN := hideT (And.intro hn hk2)
  rw [← hn] at hl1 ⊢
  rw [← hk2] at hl2 ⊢
  clear hn hk2
  by_cases h1 : (k2 : Int) < 1
  · have HNO := hideT (chN (rs := rs) (ms := ms) (fun h => by have := h.one; have := h.len; have := HN.out; omega))
    go_enter Tryd.func11, Tryd.ntmps11
    go_wp2
    go_ret3
    exact ⟨HNO.out, Below.refl _ _⟩
  by_cases h20 : (20 : Int) < (k2 : Int)
  · have HNO := hideT (chN (rs := rs) (ms := ms) (fun h => by have := h.most; have := h.len; have := HN.out; omega))
    go_enter Tryd.func11, Tryd.ntmps11
    go_wp2
    go_ret3
    exact ⟨HNO.out, Below.refl _ _⟩
  by_cases hkn : k2 = n
  rotate_left
  · have HNO := hideT (chN (rs := rs) (ms := ms) (fun h => by have := h.len; have := HN.out; omega))
    have hne : ((n : Int) != (k2 : Int)) = true := by simp; omega
    have hne2 : ¬ (n : Int) = (k2 : Int) := by omega
    clear hkn
    go_enter Tryd.func11, Tryd.ntmps11
    go_wp2
    go_ret3
    exact ⟨HNO.out, Below.refl _ _⟩
  subst hkn
  have hk1 : 1 ≤ k2 := by omega
  have hk20 : k2 ≤ 20 := by omega
  have HRA := hideT (readAllK rs k2 HN.out.1 b1 w hk1 hk20 HSZ.out.1 HR1.out)
  go_enter Tryd.func11, Tryd.ntmps11
  go_wp2_with fail
  refine HRA.out.mono ?_
  rintro e w1 ⟨hW1, hr1⟩
  have hs1 := hW1.size
  have HRB := hideT (readAllK ms k2 HN.out.2 b2 w1 hk1 hk20 HSZ.out.2 (HR2.out.below hW1 hb2))
  rcases hr1 with ⟨g1, B1, ys1, rfl, hB1, hD1, hN1⟩ | ⟨g1, rfl⟩
  rotate_left
  · have HNO := hideT (chN (rs := rs) (ms := ms) (fun h => by have := h.gr; rw [g1] at this; cases this))
    clear g1
    go_wp2_with fail
    refine HRB.out.mono ?_
    rintro e w2 ⟨hW2, hr2⟩
    have hW2' := hW1.trans (hW2.mono hs1)
    rcases hr2 with ⟨g2, B2, ys2, rfl, _⟩ | ⟨g2, rfl⟩
    · clear g2
      go_wp2
      go_ret3
      exact ⟨HNO.out, hW2'⟩
    · clear g2
      go_wp2
      go_ret3
      exact ⟨HNO.out, hW2'⟩
  have HG1 := hideT g1
  have HD1 := hideT hD1
  have HN1 := hideT hN1
  have hl1 := RecAt.lt hD1
  clear g1 hD1 hN1
  go_wp2_with fail
  refine HRB.out.mono ?_
  rintro e w2 ⟨hW2, hr2⟩
  have hW2' := hW1.trans (hW2.mono hs1)
  have hs2 := hW2.size
  rcases hr2 with ⟨g2, B2, ys2, rfl, hB2, hD2, hN2⟩ | ⟨g2, rfl⟩
  rotate_left
  · have HNO := hideT (chN (rs := rs) (ms := ms) (fun h => by have := h.gm; rw [g2] at this; cases this))
    clear g2
    go_wp2
    go_ret3
    exact ⟨HNO.out, hW2'⟩
  have HG2 := hideT g2
  have HD1' := hideT (HD1.out.below hW2 hl1)
  have HD2 := hideT hD2
  have HN2 := hideT hN2
  have hl2 := RecAt.lt hD2
  clear g2 hD2 hN2 hW2
  go_wp2_with fail
  refine (natOf_any 1 1 _ rfl (by omega) (by omega)).mono ?_
  rintro e w3 ⟨i1, r1, rfl, hRa, hW3⟩
  have hs3 := hW3.size
  have lr := hRa.len
  have hW3' := hW2'.trans (hW3.mono hW2'.size)
  have HD1'' := hideT (HD1'.out.below hW3 (by omega))
  have HD2' := hideT (HD2.out.below hW3 (by omega))
  have hZ := ClsAt.new w3 0 zP 0 zP
  have HRa := hideT hRa
  clear hRa hW3
  go_wp2_with (first | (refine build_cls1 rfl _ rfl _ rfl (i1 : Int) r1 lr rfl ?_) | (refine store_cls rfl (.tmp 11) _ rfl rfl w3.heap.size 0 zP i1 r1 rfl rfl 0 zP 0 zP hZ zP_len zP_len zP_len lr ?_; intro w4 hN4 hg4 hs4))
  have hs4' : w4.heap.size = w3.heap.size + 1 := by rw [hs4]; simp
  have hB4 : Below w.heap.size w w4 := (hW3'.alloc hW3'.size _).grown hg4 (by simp; have := hW3'.size; omega) (by intro k hk; cases hk; have := hW3'.size; omega)
  have HX1 : Hid (RecAt w4 B1 40 natXL ys1) := RowAt.grown (RowAt.old HD1''.out _) hg4 (by simp; omega)
  have HX2 : Hid (RecAt w4 B2 40 natXL ys2) := RowAt.grown (RowAt.old HD2'.out _) hg4 (by simp; omega)
  have hw3 := hW3'.size
  have hbc1 : B1 < w3.heap.size := by omega
  have hbc2 : B2 < w3.heap.size := by omega
  clear HD1 HD1' HD1'' HD2 HD2' hZ hg4 hW3' hW1 hW2'
  go_loopg [50] k2 (fun g i wr => ∃ (k c M i1 j1 : Nat) (p q : List Int), g = k2 - k ∧ k ≤ k2 ∧ i = .int .i64 (k : Int) ∧ Hid (ChSt (prs rs ms k) c M ∧ M < 10 ^ 600 ∧ Rep c i1 p ∧ Rep M j1 q) ∧ ClsAt wr w3.heap.size i1 p j1 q ∧ Hid (RecAt wr B1 40 natXL ys1) ∧ Hid (RecAt wr B2 40 natXL ys2) ∧ Hid (Below w.heap.size w wr))
  case atStart => exact ⟨0, 0, 1, 0, i1, zP, r1, rfl, by omega, by go_num, ⟨ChSt.start, one_lt_ten 600 (by decide), zero_rep, HRa.out⟩, hN4, HX1, HX2, hB4⟩
  case round =>
    clear hN4 HX1 HX2 hB4 HRa
    obtain ⟨k, c, M, i2, j2, p, q, hg, hk, rfl, HST, hC, HY1, HY2, HB⟩ := hrel
    have lp := HST.out.2.2.1.len
    have lq := HST.out.2.2.2.len
    have hbc := RowAt.lt hC
    have hBs := HB.out.size
    by_cases hlt : (k : Int) < (k2 : Int)
    · have hk' : k < k2 := by omega
      obtain ⟨x1, s1, e1, rr⟩ := nats_get HN1.out (show k < rs.length by have := HN.out.1; omega)
      obtain ⟨x2, s2, e2, rm⟩ := nats_get HN2.out (show k < ms.length by have := HN.out.2; omega)
      obtain ⟨r, hr⟩ : ∃ r, r = dval (rs.getD k default).data.toList := ⟨_, rfl⟩
      obtain ⟨m, hm⟩ : ∃ m, m = dval (ms.getD k default).data.toList := ⟨_, rfl⟩
      rw [← hr] at rr
      rw [← hm] at rm
      have hy1 : k < ys1.length := by have := HN1.out.1; have := HN.out.1; omega
      have hy2 : k < ys2.length := by have := HN2.out.1; have := HN.out.2; omega
      have hrl : r < 10 ^ 600 := by rw [hr]; exact good_lt (allGood_at HG1.out (by have := HN.out.1; omega))
      have hml : m < 10 ^ 600 := by rw [hm]; exact good_lt (allGood_at HG2.out (by have := HN.out.2; omega))
      have lx1 := rr.len
      have lx2 := rm.len
      have hcM := HST.out.1.2.1
      have hi2 : i2 ≤ 100 := HST.out.2.2.1.small (Nat.lt_trans hcM HST.out.2.1)
      have hj2 : j2 ≤ 100 := HST.out.2.2.2.small HST.out.2.1
      have hx1 : x1 ≤ 100 := rr.small hrl
      have hx2 : x2 ≤ 100 := rm.small hml
      have hpr : prAt rs ms k = (r, m) := by unfold prAt; rw [hr, hm]
      have HPR := hideT hpr
      have HRR := hideT (And.intro rr rm)
      have HCM := hideT hcM
      clear hr hm rr rm hrl hml hpr hcM
      go_wp2_with fail
      refine float_begin (fun w' => ClsAt w' w3.heap.size i2 p j2 q ∧ RecAt w' B1 40 natXL ys1 ∧ RecAt w' B2 40 natXL ys2) 13 13 64 (clsC 0 zP 0 zP) wr.heap.size 15 (by kernel_rfl) rfl ?_
      have hSB : ∀ wz, Below wr.drew.heap.size wr.drew wz → ClsAt wz w3.heap.size i2 p j2 q ∧ RecAt wz B1 40 natXL ys1 ∧ RecAt wz B2 40 natXL ys2 := fun wz h => ⟨RowAt.below (show ClsAt wr.drew w3.heap.size i2 p j2 q from hC) h (by show _ < wr.heap.size; omega), RecAt.below (show RecAt wr.drew B1 40 natXL ys1 from HY1.out) h (by show _ < wr.heap.size; omega), RecAt.below (show RecAt wr.drew B2 40 natXL ys2 from HY2.out) h (by show _ < wr.heap.size; omega)⟩
      refine float_val 0 54 rfl rfl (by kernel_rfl) (by kernel_rfl) (by kernel_rfl) (by kernel_rfl) (by kernel_rfl) noPanic_put (fun _ => rfl) (by decide) (by decide) (.agg (clsC i2 p j2 q)) (fun _ h => run_cls _ rfl w3.heap.size rfl _ p _ q h.1 lp lq) (fun _ => fun _ h => run_cls _ rfl w3.heap.size rfl _ p _ q h.1 lp lq) hSB ?_
      simp only [Act.put, List.setIfInBounds_toArray, List.set_cons_zero, List.set_cons_succ]
      refine float_val 1 55 rfl rfl (by kernel_rfl) (by kernel_rfl) (by kernel_rfl) (by kernel_rfl) (by kernel_rfl) noPanic_put (fun _ => rfl) (by decide) (by decide) (.slice (some ⟨B1, 0, none⟩) k2 k2) (fun _ _ => by go_simp) (fun _ => fun _ _ => by go_simp) hSB ?_
      simp only [Act.put, List.setIfInBounds_toArray, List.set_cons_zero, List.set_cons_succ]
      refine float_val 2 56 rfl rfl (by kernel_rfl) (by kernel_rfl) (by kernel_rfl) (by kernel_rfl) (by kernel_rfl) noPanic_put (fun _ => rfl) (by decide) (by decide) (.int .i64 (k : Int)) (fun _ _ => by go_simp) (fun _ => fun _ _ => by go_simp) hSB ?_
      simp only [Act.put, List.setIfInBounds_toArray, List.set_cons_zero, List.set_cons_succ]
      refine float_val 3 57 rfl rfl (by kernel_rfl) (by kernel_rfl) (by kernel_rfl) (by kernel_rfl) (by kernel_rfl) noPanic_put (fun _ => rfl) (by decide) (by decide) (.pointer (some ⟨B1, k * 205, none⟩)) (fun _ _ => by go_simp) (fun _ => fun _ _ => by go_simp) hSB ?_
      simp only [Act.put, List.setIfInBounds_toArray, List.set_cons_zero, List.set_cons_succ]
      refine float_val 4 58 rfl rfl (by kernel_rfl) (by kernel_rfl) (by kernel_rfl) (by kernel_rfl) (by kernel_rfl) noPanic_put (fun _ => rfl) (by decide) (by decide) (.agg (natC x1 s1)) (fun _ h => run_natX _ rfl B1 k rfl ys1 h.2.1 hy1 x1 s1 e1) (fun _ => fun _ h => run_natX _ rfl B1 k rfl ys1 h.2.1 hy1 x1 s1 e1) hSB ?_
      simp only [Act.put, List.setIfInBounds_toArray, List.set_cons_zero, List.set_cons_succ]
      refine float_val 5 59 rfl rfl (by kernel_rfl) (by kernel_rfl) (by kernel_rfl) (by kernel_rfl) (by kernel_rfl) noPanic_put (fun _ => rfl) (by decide) (by decide) (.slice (some ⟨B2, 0, none⟩) k2 k2) (fun _ _ => by go_simp) (fun _ => fun _ _ => by go_simp) hSB ?_
      simp only [Act.put, List.setIfInBounds_toArray, List.set_cons_zero, List.set_cons_succ]
      refine float_val 6 60 rfl rfl (by kernel_rfl) (by kernel_rfl) (by kernel_rfl) (by kernel_rfl) (by kernel_rfl) noPanic_put (fun _ => rfl) (by decide) (by decide) (.int .i64 (k : Int)) (fun _ _ => by go_simp) (fun _ => fun _ _ => by go_simp) hSB ?_
      simp only [Act.put, List.setIfInBounds_toArray, List.set_cons_zero, List.set_cons_succ]
      refine float_val 7 61 rfl rfl (by kernel_rfl) (by kernel_rfl) (by kernel_rfl) (by kernel_rfl) (by kernel_rfl) noPanic_put (fun _ => rfl) (by decide) (by decide) (.pointer (some ⟨B2, k * 205, none⟩)) (fun _ _ => by go_simp) (fun _ => fun _ _ => by go_simp) hSB ?_
      simp only [Act.put, List.setIfInBounds_toArray, List.set_cons_zero, List.set_cons_succ]
      refine float_val 8 62 rfl rfl (by kernel_rfl) (by kernel_rfl) (by kernel_rfl) (by kernel_rfl) (by kernel_rfl) noPanic_put (fun _ => rfl) (by decide) (by decide) (.agg (natC x2 s2)) (fun _ h => run_natX _ rfl B2 k rfl ys2 h.2.2 hy2 x2 s2 e2) (fun _ => fun _ h => run_natX _ rfl B2 k rfl ys2 h.2.2 hy2 x2 s2 e2) hSB ?_
      simp only [Act.put, List.setIfInBounds_toArray, List.set_cons_zero, List.set_cons_succ]
      refine float_call 9 63 rfl rfl rfl rfl rfl (fun _ => rfl) (fun _ => rfl) (by kernel_rfl) (by kernel_rfl) (by decide) (by decide) hzc (by show _ ≤ wr.heap.size; omega) 39 #[.agg (clsC i2 p j2 q), .agg (natC x1 s1), .agg (natC x2 s2)] (fun _ => by go_simp) (fun _ _ => by go_simp) hSB _ (fun w' _ => joined_any w' HST.out.2.2.1 HST.out.2.2.2 HRR.out.1 HRR.out.2 hi2 hj2 hx1 hx2 HCM.out) ?_
      rintro wx e w5 hWx ⟨hJ, hW5'⟩
      have hW5 : Below wr.heap.size wr w5 := (⟨hWx.os, hWx.tape, hWx.output, hWx.size, hWx.block⟩ : Below wr.heap.size wr wx).trans (hW5'.mono hWx.size)
      have hs5 := hW5.size
      obtain ⟨i3, j3, p3, q3, o, rfl, lp3, lq3, hJ2⟩ := join_norm hJ
      have HJ := hideT hJ2
      clear hJ hJ2
      refine ⟨_, rfl, hW5', ?_⟩
      have hS5 : ∀ wz, Below w5.heap.size w5 wz → ClsAt wz w3.heap.size i2 p j2 q ∧ RecAt wz B1 40 natXL ys1 ∧ RecAt wz B2 40 natXL ys2 := fun wz h => ⟨RowAt.below (RowAt.below hC hW5 (by omega)) h (by omega), RecAt.below (RecAt.below HY1.out hW5 (by omega)) h (by omega), RecAt.below (RecAt.below HY2.out hW5 (by omega)) h (by omega)⟩
      simp only [Act.put, List.setIfInBounds_toArray, List.set_cons_zero, List.set_cons_succ]
      refine float_val 10 53 rfl rfl (by kernel_rfl) (by kernel_rfl) (by kernel_rfl) (by kernel_rfl) (by kernel_rfl) noPanic_put (fun _ => rfl) (by decide) (by decide) (.tuple #[.agg (clsC i3 p3 j3 q3), .bool o]) (fun _ _ => by go_simp) (fun _ => fun _ _ => by go_simp) hS5 ?_
      simp only [Act.put, List.setIfInBounds_toArray, List.set_cons_zero, List.set_cons_succ]
      refine float_val 11 64 rfl rfl (by kernel_rfl) (by kernel_rfl) (by kernel_rfl) (by kernel_rfl) (by kernel_rfl) noPanic_put (fun _ => rfl) (by decide) (by decide) (.agg (clsC i3 p3 j3 q3)) (fun _ _ => by go_simp) (fun _ => fun _ _ => by go_simp) hS5 ?_
      simp only [Act.put, List.setIfInBounds_toArray, List.set_cons_zero, List.set_cons_succ]
      refine float_val 12 65 rfl rfl (by kernel_rfl) (by kernel_rfl) (by kernel_rfl) (by kernel_rfl) (by kernel_rfl) noPanic_put (fun _ => rfl) (by decide) (by decide) (.bool o) (fun _ _ => by go_simp) (fun _ => fun _ _ => by go_simp) hS5 ?_
      simp only [Act.put, List.setIfInBounds_toArray, List.set_cons_zero, List.set_cons_succ]
      refine float_end rfl rfl rfl (fun _ => rfl) (by kernel_rfl) hzc (by omega) hS5 ?_
      intro wp b13 hWp hRp hb13
      simp only [Act.put, List.setIfInBounds_toArray, List.set_cons_zero, List.set_cons_succ]
      have hSp := hS5 wp hWp
      have hWp' : Below wr.heap.size wr wp := hW5.trans (hWp.mono hs5)
      have hsp := hWp'.size
      refine held_store_cls 14 (by kernel_rfl) rfl rfl _ _ rfl rfl b13 i3 p3 j3 q3 rfl rfl 0 zP 0 zP hRp zP_len zP_len lp3 lq3 ?_
      intro w6 hN6 hg6 hs6
      have hS6 : ClsAt w6 w3.heap.size i2 p j2 q ∧ RecAt w6 B1 40 natXL ys1 ∧ RecAt w6 B2 40 natXL ys2 := ⟨RowAt.grown hSp.1 hg6 (by simp; omega), RowAt.grown hSp.2.1 hg6 (by simp; omega), RowAt.grown hSp.2.2 hg6 (by simp; omega)⟩
      refine ⟨hS6, ?_⟩
      refine held_assign 15 (some 14) (by kernel_rfl) rfl rfl _ rfl rfl _ rfl hS6 ?_
      simp only [Act.put, List.setIfInBounds_toArray, List.set_cons_zero, List.set_cons_succ]
      refine wpAnyH_done (by kernel_rfl) ?_ _
      refine NoPanic.normal ?_
      have hB6 : Below w.heap.size w w6 := (HB.out.trans (hWp'.mono hBs)).grown hg6 (by omega) (by intro k hk; cases hk; omega)
      have hb13l := hN6.lt
      have HS6 := hideT hS6
      have hC6 := hS6.1
      have HB6 := hideT hB6
      clear hS5 hSB hSp hS6 hB6 hWp hWp' hRp hWx hW5 hW5' hg6 hC HY1 HY2 HB
      cases o with
      | false =>
        have HNO := hideT (chN (rs := rs) (ms := ms) (fun h => by
          obtain ⟨b, hb⟩ := prs_split rs ms (show k < rs.length by have := HN.out.1; omega)
          rcases HJ.out with ⟨_, hj⟩ | ⟨hj, _⟩
          · refine ch_fail (T := 10 ^ 600) (a := prs rs ms k) (b := b) (p := prAt rs ms k) HST.out.1.1 ?_ (by rw [← hb]; exact h.ok)
            rw [HPR.out]; exact hj
          · cases hj))
        go_wp2
        go_ret3
        exact ⟨HNO.out, HB6.out⟩
      | true =>
        go_wp2_with (first | (refine load_cls rfl _ rfl b13 rfl _ p3 _ q3 hN6 lp3 lq3 ?_) | (refine store_cls rfl (.tmp 11) _ rfl rfl w3.heap.size i3 p3 j3 q3 rfl rfl i2 p j2 q hC6 lp lq lp3 lq3 ?_; intro w7 hN7 hg7 hs7))
        go_roundg (k2 - (k + 1))
        case measure => omega
        case rel =>
          rcases HJ.out with ⟨hj, _⟩ | ⟨_, hj, K, hK, hp3, hq3⟩
          · cases hj
          · have hst : ChSt (prs rs ms (k + 1)) (c + M * K) (M * m) := by
              rw [prs_succ, HPR.out]
              exact HST.out.1.step (p := (r, m)) hj.1 hj.2.2 hK
            refine ⟨k + 1, c + M * K, M * m, i3, j3, p3, q3, rfl, by omega, by go_num, ⟨hst, hj.2.1, hp3, hq3⟩, hN7, ?_, ?_, ?_⟩
            · exact RowAt.grown HS6.out.2.1 hg7 (by simp; omega)
            · exact RowAt.grown HS6.out.2.2 hg7 (by simp; omega)
            · exact HB6.out.grown hg7 (by have := HB6.out.size; omega) (by intro k hk; cases hk; omega)
    · have hkk : k = k2 := by omega
      have HFIN : Hid (∀ s t : ByteArray, Tx s c → Tx t M → ChAns rs ms (.returned (.tuple #[.string s, .string t, .bool true]))) := fun s t hs ht => by
        have h := HST.out
        rw [hkk] at h
        have hkr : k2 = rs.length := HN.out.1
        rw [hkr] at h
        refine .inl ⟨⟨by omega, by omega, by have := HN.out; omega, HG1.out, HG2.out, h.1.ok h.2.1⟩, s, t, c, rfl, hs, ?_, h.1.2.2.1, ?_⟩
        · rw [← h.1.1]; exact ht
        · rw [← h.1.1]; exact h.1.2.1
      clear hkk
      go_wp2_with fail
      refine held_begin (fun w' => ClsAt w' w3.heap.size i2 p j2 q) (by kernel_rfl) ?_
      have hS : ClsAt wr.drew w3.heap.size i2 p j2 q := hC
      refine held_val 0 (some 70) rfl rfl (by kernel_rfl) (by kernel_rfl) (by kernel_rfl) noPanic_put rfl (.pointer (some ⟨w3.heap.size, 0, none⟩)) (fun _ => by go_simp) hS ?_
      simp only [Act.put, List.setIfInBounds_toArray, List.set_cons_zero, List.set_cons_succ]
      refine held_valS 1 (some 71) rfl rfl (by kernel_rfl) (by kernel_rfl) (by kernel_rfl) noPanic_put rfl (.agg (natC i2 p)) (fun _ h => run_mid_nat _ rfl w3.heap.size 0 rfl i2 p (ClsAt.rest h) lp) hS ?_
      simp only [Act.put, List.setIfInBounds_toArray, List.set_cons_zero, List.set_cons_succ]
      refine held_val 3 (some 73) rfl rfl (by kernel_rfl) (by kernel_rfl) (by kernel_rfl) noPanic_put rfl (.pointer (some ⟨w3.heap.size, 205, none⟩)) (fun _ => by go_simp) hS ?_
      simp only [Act.put, List.setIfInBounds_toArray, List.set_cons_zero, List.set_cons_succ]
      refine held_valS 4 (some 74) rfl rfl (by kernel_rfl) (by kernel_rfl) (by kernel_rfl) noPanic_put rfl (.agg (natC j2 q)) (fun _ h => run_mid_nat _ rfl w3.heap.size 205 rfl j2 q (ClsAt.modulus h lp) lq) hS ?_
      simp only [Act.put, List.setIfInBounds_toArray, List.set_cons_zero, List.set_cons_succ]
      refine held_call 2 (some 72) (by kernel_rfl) rfl rfl rfl 40 #[.agg (natC i2 p)] (by go_simp) _ (text_any wr.drew HST.out.2.2.1 ((HT.out.on HB.out.drew).up hBs)) ?_
      rintro e w5 ⟨y1, rfl, hc1, hv1, hW5⟩
      have hB5 : Below w.heap.size w w5 := HB.out.drew.trans (hW5.mono hBs)
      have hS5 : ClsAt w5 w3.heap.size i2 p j2 q := RowAt.below hS hW5 (RowAt.lt hS)
      refine ⟨_, rfl, hS5, ?_⟩
      simp only [Act.put, List.setIfInBounds_toArray, List.set_cons_zero, List.set_cons_succ]
      refine held_call 5 (some 75) (by kernel_rfl) rfl rfl rfl 40 #[.agg (natC j2 q)] (by go_simp) _ (text_any w5 HST.out.2.2.2 ((HT.out.on hB5).up hB5.size)) ?_
      rintro e w6 ⟨y2, rfl, hc2, hv2, hW6⟩
      have hB6 : Below w.heap.size w w6 := hB5.trans (hW6.mono hB5.size)
      have hS6 : ClsAt w6 w3.heap.size i2 p j2 q := RowAt.below hS5 hW6 (RowAt.lt hS5)
      refine ⟨_, rfl, hS6, ?_⟩
      simp only [Act.put, List.setIfInBounds_toArray, List.set_cons_zero, List.set_cons_succ]
      refine held_assign 6 (some 4) (by kernel_rfl) rfl rfl _ rfl rfl _ rfl hS6 ?_
      simp only [Act.put, List.setIfInBounds_toArray, List.set_cons_zero, List.set_cons_succ]
      refine held_assign 7 (some 5) (by kernel_rfl) rfl rfl _ rfl rfl _ rfl hS6 ?_
      simp only [Act.put, List.setIfInBounds_toArray, List.set_cons_zero, List.set_cons_succ]
      refine held_assign 8 (some 6) (by kernel_rfl) rfl rfl _ rfl rfl _ rfl hS6 ?_
      simp only [Act.put, List.setIfInBounds_toArray, List.set_cons_zero, List.set_cons_succ]
      refine wpAnyH_done (by kernel_rfl) ?_ _
      refine NoPanic.normal ?_
      have HA := hideT (HFIN.out y1 y2 ⟨hc1, hv1⟩ ⟨hc2, hv2⟩)
      clear hc1 hv1 hc2 hv2 hS hS5 hS6 hW5 hW6 hB5
      go_wp2
      go_ret3
      exact ⟨HA.out, hB6⟩
end Go.Proofs.YthbnacikomimfaaDoor

/-
  Rows of records that came in as arguments: what their reading says of the cells.
-/
namespace Go.Proofs.YthbnacikomimfaaDoor
open Go.ChangeShapes Go.WideShapes Go.ChangeAt Go.RowKit
set_option linter.unusedVariables false

theorem laidOutR : laidOutB Tryd.prog = true := by kernel_rfl

theorem cell_block {w : World} {a : Addr} {v : Value} (h : w.cell? a = some v) : a.block < w.heap.size := by
  rcases Nat.lt_or_ge a.block w.heap.size with h1 | h1
  · exact h1
  · have h2 : w.heap[a.block]? = none := Array.getElem?_eq_none h1
    simp [World.cell?, h2] at h

/-- A slice of records, out of what each record's reading says. -/
theorem open_recs {H : Type} {enc : TypeId × Value → H} {W : World} {X : Type} [Inhabited X] (f : X → List Value) (c : Nat) (hc0 : 0 < c) (hc : ∀ x, (f x).length = c) (Q : X → Prop) {t e : TypeId} (ht : Tryd.prog.underlying t = some (.slice e)) (hce : Tryd.prog.cellsOf e = c)
    (each : ∀ (n : Nat) (cs : List Value) (x : DataW H × List MemPlace), cs.length = c → DataW.trod enc Tryd.prog W 0 (fun _ => true) true n e cs = some x → ∃ d : X, cs = f d ∧ Q d)
    {fuel : Nat} {cs : List Value} {x : DataW H × List MemPlace} (h : DataW.trod enc Tryd.prog W 0 (fun _ => true) true fuel t cs = some x) :
    ∃ (v : Value) (l : List X), cs = [v] ∧ SlR W v f c l ∧ (∀ i, i < l.length → Q (l.getD i default)) ∧ l.length ≤ maxLen := by
  rcases Deep.open_slice ht h with ⟨h1, _⟩ | ⟨a, len', cap', m, n, D, Pl, h1, hb, hl, hm, hmm, hx, hel⟩
  · exact ⟨.slice none 0 0, [], h1, .inl ⟨rfl, rfl⟩, fun i hi => by simp at hi, by unfold maxLen; simp⟩
  · have hlm : len' ≤ m := by rw [hmm]; simp; exact hl
    have each' : ∀ i, i < len' → ∃ d : X, W.cells? 0 (a.add (i * c)) c = some (f d) ∧ Q d := fun i hi => by
      obtain ⟨cs', g1, g2⟩ := hel i (by omega)
      rw [hce] at g1
      obtain ⟨_, hlen, _⟩ := World.cells?_some g1
      obtain ⟨d, rfl, ht⟩ := each _ _ _ hlen g2
      exact ⟨d, g1, ht⟩
    obtain ⟨g, hfl⟩ := Deep.choose_lt each'
    have hlen : ((List.range len').map g).length = len' := by simp
    have hget : ∀ i, i < len' → ((List.range len').map g).getD i default = g i := fun i hi => by simp [List.getD, hi]
    refine ⟨_, (List.range len').map g, h1, .inr ⟨a, cap', by rw [hlen], fun i j v hi hv => ?_, fun h0 => ?_⟩, fun i hi => ?_, by rw [hlen]; omega⟩
    · rw [hlen] at hi
      rw [hget i hi] at hv
      obtain ⟨_, _, hcc⟩ := World.cells?_some (hfl i hi).1
      have hj : j < c := by
        have := (List.getElem?_eq_some_iff.1 hv).1
        rw [hc] at this
        exact this
      rw [hcc j hj]
      exact hv
    · rw [hlen] at h0
      obtain ⟨_, _, hcc⟩ := World.cells?_some (hfl 0 h0).1
      have h2 := hcc 0 hc0
      have h3 : (f (g 0))[0]? = some ((f (g 0))[0]'(by rw [hc]; exact hc0)) := List.getElem?_eq_getElem _
      rw [h3] at h2
      have := cell_block h2
      simpa [Addr.add] using this
    · rw [hlen] at hi
      rw [hget i hi]
      exact (hfl i hi).2
theorem cells_strR : Tryd.prog.cellsOf 9 = 1 := by kernel_rfl
theorem cells_intR : Tryd.prog.cellsOf 3 = 1 := by kernel_rfl
theorem cells_boolR : Tryd.prog.cellsOf 4 = 1 := by kernel_rfl
end Go.Proofs.YthbnacikomimfaaDoor
