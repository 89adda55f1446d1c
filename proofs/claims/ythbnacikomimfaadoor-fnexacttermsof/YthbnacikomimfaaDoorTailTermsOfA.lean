/-
  The texts PkNumTimes, TwoTwo, NumTimes2, TwoOne, SumTop, NumPlus2, PkImplMulNum, BezMath, WholeDiv, Float, Comb, TermsIt, one behind the other, as one.
-/
import Derived.Test.YthbnacikomimfaaDoorPkReadNumA
import Derived.Test.YthbnacikomimfaaDoorPkFraction
import Derived.Test.YthbnacikomimfaaDoorPkMinus
import Derived.Test.YthbnacikomimfaaDoorPkMath
import Derived.Test.YthbnacikomimfaaDoorFlt
import Derived.WalkLawsBesides
import Derived.Test.YthbnacikomimfaaDoorBaseRow
import Derived.Test.YthbnacikomimfaaDoorBaseHeld
import Derived.Test.YthbnacikomimfaaDoorPkCutNum
import Derived.Test.YthbnacikomimfaaDoorPkImplDigits
import Derived.Test.YthbnacikomimfaaDoorImplAdd
import Derived.Test.YthbnacikomimfaaDoorPkSpecAdd
import Derived.Test.YthbnacikomimfaaDoorDec
import Derived.Test.YthbnacikomimfaaDoorBaseLate
import Derived.Test.YthbnacikomimfaaDoorEuMath
import Derived.Test.YthbnacikomimfaaDoorRangeRet
import Derived.Test.YthbnacikomimfaaDoorBaseMany
import Derived.Sort.LoopGhostIn

/-
  The texts NumTimes, Small, Added, one behind the other.
-/

/-
  What turned of a fraction of impl answers (times: NumTimes2).
-/
namespace Go.Proofs.YthbnacikomimfaaDoor
open Go.RowKit
set_option linter.unusedVariables false

set_option maxHeartbeats 1000000 in
set_option maxRecDepth 100000 in
theorem turned_any {k j : Nat} {p q : List Int} (g : Bool) (w : World) (hp : p.length = 204) (hq : q.length = 204) :
    Calls Tryd.prog 75 #[.agg (numC g k p j q)] w fun e w' => e = .returned (.agg (numC g j q k p)) ∧ Below w.heap.size w w' := by
  have hz2 := zero_num.1
  have A : NumAt ((w.alloc (.cells (numC g k p j q) 71)).alloc (.cells (numC false 0 zP 0 zP) 71)) w.heap.size g k p j q := RowAt.old (NumAt.new w g k p j q) _
  have C : NumAt ((w.alloc (.cells (numC g k p j q) 71)).alloc (.cells (numC false 0 zP 0 zP) 71)) (w.heap.size + 1) false 0 zP 0 zP := by
    have := NumAt.new (w.alloc (.cells (numC g k p j q) 71)) false 0 zP 0 zP
    simp only [World.size_alloc] at this; exact this
  have hB : Below w.heap.size w ((w.alloc (.cells (numC g k p j q) 71)).alloc (.cells (numC false 0 zP 0 zP) 71)) := ((Below.refl _ _).alloc (Nat.le_refl _) _).alloc (by simp) _
  have c0 := A.neg
  go_enter Tryd.func75, Tryd.ntmps75
  go_wp2_with (first | (refine load_mid_nat rfl _ rfl w.heap.size 206 rfl j q (A.bottom hp) hq ?_) | (refine load_mid_nat rfl _ rfl w.heap.size 1 rfl k p A.size hp ?_) | (refine build_whole rfl _ _ rfl _ rfl g j q hq rfl rfl ?_) | (refine build_num rfl _ _ rfl _ rfl g j q k p hq hp rfl rfl ?_) | (refine store_num rfl _ _ rfl rfl (w.heap.size + 1) g j q k p rfl rfl false 0 zP 0 zP C zP_len zP_len hq hp ?_; intro w1 hN1 hg1 hs1))
  refine bodyPost_ret (v := .agg (numC g j q k p)) (res_num Tryd.results75 _ _ (w.heap.size + 1) _ _ _ _ _ rfl hN1 hq hp) rfl ⟨rfl, ?_⟩
  exact hB.grown hg1 (by simp; omega) (by intro k hk; cases hk; omega)

/-- The sign of a whole number. -/
def sgn (g : Bool) (k : Nat) : Int := if k = 0 then 0 else if g then -1 else 1

set_option maxHeartbeats 400000 in
theorem sign_any {k : Nat} {p : List Int} (g : Bool) (w : World) :
    Calls Tryd.prog 78 #[.agg (wholeC g k p)] w fun e w' => e = .returned (.int .i64 (sgn g k)) ∧ Below w.heap.size w w' := by
  have hz1 := zero_whole.1
  have A := WholeAt.new w g k p
  have hB : Below w.heap.size w (w.alloc (.cells (wholeC g k p) 69)) := (Below.refl _ _).alloc (Nat.le_refl _) _
  have c0 := A.neg
  have c1 := A.used
  by_cases h : k = 0
  · have h' : ((k : Int) == 0) = true := by simp [h]
    have HE : Hid (sgn g k = 0) := if_pos h
    clear h
    go_enter Tryd.func78, Tryd.ntmps78
    go_wp2
    go_ret
    exact ⟨by rw [HE.out]; rfl, hB⟩
  · have h' : ((k : Int) == 0) = false := by simp [h]
    have HE : Hid (sgn g k = if g then -1 else 1) := if_neg h
    clear h
    cases g with
    | true =>
      go_enter Tryd.func78, Tryd.ntmps78
      go_wp2
      go_ret
      exact ⟨by rw [HE.out]; rfl, hB⟩
    | false =>
      go_enter Tryd.func78, Tryd.ntmps78
      go_wp2
      go_ret
      exact ⟨by rw [HE.out]; rfl, hB⟩
end Go.Proofs.YthbnacikomimfaaDoor

/-
  Small fractions of impl: isSmall, asComplex, smallWhole; the top of a sum by complex numbers.
-/
namespace Go.Proofs.YthbnacikomimfaaDoor
open Go.RowKit
set_option linter.unusedVariables false

theorem NumAt.part0 {w : World} {b : Nat} {g : Bool} {u : Int} {p : List Int} {v : Int} {q : List Int} (h : NumAt w b g u p v q) (hp : p.length = 204) : w.cell? ⟨b, 2, none⟩ = some (.int .i64 (p.getD 0 0)) := by
  rw [cell_of_row w b 2 _ _ _ h]
  cases p with
  | nil => simp at hp
  | cons x p => simp [numC, natL]
theorem NumAt.bpart0 {w : World} {b : Nat} {g : Bool} {u : Int} {p : List Int} {v : Int} {q : List Int} (h : NumAt w b g u p v q) (hp : p.length = 204) (hq : q.length = 204) : w.cell? ⟨b, 207, none⟩ = some (.int .i64 (q.getD 0 0)) := by
  rw [cell_of_row w b 207 _ _ _ h, num_split2]
  simp only [List.getElem?_toArray, List.append_assoc]
  rw [List.getElem?_append_right (by simp [natL_len, hp])]
  cases q with
  | nil => simp at hq
  | cons x q => simp [hp, natL]

theorem Rep.little {n k : Nat} {p : List Int} (h : Rep n k p) (hk : k ≤ 1) : p.getD 0 0 = (n : Int) ∧ n < 1000000 := by
  have hp := h.len
  have hv := h.val
  rw [vb_split 1000000 p 1 (by omega), vb_zero _ (p.drop 1) (fun i => by rw [getD_drop]; exact h.out _ (by omega))] at hv
  have ht : p.take 1 = [p.getD 0 0] := by
    cases p with
    | nil => simp at hp
    | cons x p => simp
  rw [ht] at hv
  simp only [vb, Int.mul_zero, Int.add_zero] at hv
  have := h.hi 0
  omega

set_option maxHeartbeats 1000000 in
set_option maxRecDepth 100000 in
theorem smallWhole_any (z : Int) (w : World) (h1 : -400000000000000 ≤ z) (h2 : z ≤ 400000000000000) :
    Calls Tryd.prog 88 #[.int .i64 z] w fun e w' => ∃ (i : Nat) (r : List Int), e = .returned (.agg (wholeC (decide (z < 0)) i r)) ∧ Rep z.natAbs i r ∧ Below w.heap.size w w' := by
  have hz1 := zero_whole.1
  have C := WholeAt.new w false 0 zP
  have hB : Below w.heap.size w (w.alloc (.cells (wholeC false 0 zP) 69)) := (Below.refl _ _).alloc (Nat.le_refl _) _
  by_cases hz : z < 0
  · rw [decide_eq_true hz]
    go_enter Tryd.func88, Tryd.ntmps88
    go_wp2_with fail
    refine (natOf_any z.natAbs (-z) _ (by omega) (by omega) (by omega)).mono ?_
    rintro e w1 ⟨i, r, rfl, hR, hW1⟩
    have hr := hR.len
    have HR := hide hR
    have C1 : WholeAt w1 w.heap.size false 0 zP := RowAt.below C hW1 (by simp)
    have hB1 : Below w.heap.size w w1 := hB.trans (hW1.mono (by simp))
    clear hR C hB hW1
    go_wp2_with (first | (refine build_whole rfl _ _ rfl _ rfl true i r hr rfl rfl ?_) | (refine store_whole rfl _ _ rfl rfl w.heap.size true i r rfl rfl false 0 zP C1 zP_len hr ?_; intro w2 hN2 hg2 hs2))
    refine bodyPost_ret (v := .agg (wholeC true i r)) (res_whole Tryd.results88 _ _ w.heap.size _ _ _ rfl hN2 hr) rfl ⟨i, r, rfl, HR.out, ?_⟩
    exact hB1.grown hg2 (by have := hB1.size; omega) (by intro k hk; cases hk; omega)
  · rw [decide_eq_false hz]
    go_enter Tryd.func88, Tryd.ntmps88
    go_wp2_with fail
    refine (natOf_any z.natAbs z _ (by omega) (by omega) (by omega)).mono ?_
    rintro e w1 ⟨i, r, rfl, hR, hW1⟩
    have hr := hR.len
    have HR := hide hR
    have C1 : WholeAt w1 w.heap.size false 0 zP := RowAt.below C hW1 (by simp)
    have hB1 : Below w.heap.size w w1 := hB.trans (hW1.mono (by simp))
    clear hR C hB hW1
    go_wp2_with (first | (refine build_whole rfl _ _ rfl _ rfl false i r hr rfl rfl ?_) | (refine store_whole rfl _ _ rfl rfl w.heap.size false i r rfl rfl false 0 zP C1 zP_len hr ?_; intro w2 hN2 hg2 hs2))
    refine bodyPost_ret (v := .agg (wholeC false i r)) (res_whole Tryd.results88 _ _ w.heap.size _ _ _ rfl hN2 hr) rfl ⟨i, r, rfl, HR.out, ?_⟩
    exact hB1.grown hg2 (by have := hB1.size; omega) (by intro k hk; cases hk; omega)
end Go.Proofs.YthbnacikomimfaaDoor

/-
  What scaled and added of impl's whole numbers, and negated of its fractions, answer.
-/
namespace Go.Proofs.YthbnacikomimfaaDoor
open Go.RowKit
set_option linter.unusedVariables false

/-- The one operation that may come up: a whole number is written whole. -/
theorem held_store_whole {ops : Array Oper} {Q : Exit → Act → World → Prop} {md : Region.Mode} {S : World → Prop} {o : Oper} {fuel : Nat} {listed : Array Bool} {a : Act} {w : World} (i : Nat) (hr : Region.ready md ops listed = [i]) (hi : ops[i]? = some o) (hw : Region.wanted o (yielded ops a.tmps) = true) (x y : Operand) (ho : o.op = .store 69 x y) (hd : o.dst = none)
    (b : Nat) (g : Bool) (u : Int) (p : List Int) (hx : a.eval x = .pointer (some ⟨b, 0, none⟩)) (hy : a.eval y = .agg (wholeC g u p)) (g0 : Bool) (u0 : Int) (p0 : List Int) (hN : WholeAt w b g0 u0 p0) (h0 : p0.length = 204) (hl : p.length = 204)
    (h : ∀ w', WholeAt w' b g u p → w.grownBy w' (some b) → w'.heap.size = w.heap.size → S w' ∧ wpAnyH Tryd.prog md ops Q S fuel (listed.setIfInBounds i true) a w') : wpAnyH Tryd.prog md ops Q S (fuel + 1) listed a w := by
  refine wpAnyH_ready hr (by simp) (AllReadyH.cons hi (fun K hK => ?_) AllReadyH.nil)
  rw [if_pos hw]
  refine wp_store_row 69 x y ho b (wholeC g u p) hx hy 69 (wholeC g0 u0 p0) hN (whole_info g u p hl) (by rw [wholeC_size, wholeC_size, h0, hl]) (wholeC_one _ _ _) ?_
  rw [hd]
  have := h _ (setRow_heap w b _ _ _ _ hN) ⟨rfl, rfl, rfl, by simp, fun k _ hne => setRow_other w b k _ (by intro e; exact hne (by rw [e]))⟩ (by simp)
  exact hK.out _ _ this.1 (fun _ => this.2)

theorem run_row_nat' {o : Oper} {a : Act} {w : World} (x : Operand) (ho : o.op = .load 40 x) (b : Nat) (hx : a.eval x = .pointer (some ⟨b, 0, none⟩)) (u : Int) (p : List Int) (hN : NatAt w b u p) (hl : p.length = 204) : (execOp a.eval o).run Tryd.prog w = .ok (.value (.agg (natC u p))) w := by
  unfold execOp
  simp only [ho, hx, Instr.loadAt, Instr.sureAddr, Sem.run_bind, Sem.run_pure, Result.andThen_ok, run_loadVar_row w b 40 40 (natC u p) (0, 0) _ hN Tryd.underlying40 rfl (nat_info u p hl)]

set_option maxHeartbeats 1000000 in
set_option maxRecDepth 100000 in
theorem scaled_any {n m k j : Nat} {p q : List Int} (g : Bool) (w : World) (hP : Rep n k p) (hQ : Rep m j q) (hk : k ≤ 100) (hj : j ≤ 100) :
    Calls Tryd.prog 77 #[.agg (wholeC g k p), .agg (natC j q)] w fun e w' => ∃ (i : Nat) (r : List Int), e = .returned (.agg (wholeC g i r)) ∧ Rep (n * m) i r ∧ Below w.heap.size w w' := by
  have hz := zero_nat.1
  have hz1 := zero_whole.1
  have hp := hP.len
  have hq := hQ.len
  have A : WholeAt (((w.alloc (.cells (wholeC g k p) 69)).alloc (.cells (natC j q) 40)).alloc (.cells (wholeC false 0 zP) 69)) w.heap.size g k p := RowAt.old (RowAt.old (WholeAt.new w g k p) _) _
  have B : NatAt (((w.alloc (.cells (wholeC g k p) 69)).alloc (.cells (natC j q) 40)).alloc (.cells (wholeC false 0 zP) 69)) (w.heap.size + 1) j q := by
    have := (NatAt.new (w.alloc (.cells (wholeC g k p) 69)) j q).old (.cells (wholeC false 0 zP) 69)
    simp only [World.size_alloc] at this; exact this
  have C : WholeAt (((w.alloc (.cells (wholeC g k p) 69)).alloc (.cells (natC j q) 40)).alloc (.cells (wholeC false 0 zP) 69)) (w.heap.size + 1 + 1) false 0 zP := by
    have := WholeAt.new ((w.alloc (.cells (wholeC g k p) 69)).alloc (.cells (natC j q) 40)) false 0 zP
    simp only [World.size_alloc] at this; exact this
  have hB : Below w.heap.size w (((w.alloc (.cells (wholeC g k p) 69)).alloc (.cells (natC j q) 40)).alloc (.cells (wholeC false 0 zP) 69)) := (((Below.refl _ _).alloc (Nat.le_refl _) _).alloc (by simp) _).alloc (by simp; omega) _
  obtain ⟨W, hWd⟩ : ∃ W, W = (((w.alloc (.cells (wholeC g k p) 69)).alloc (.cells (natC j q) 40)).alloc (.cells (wholeC false 0 zP) 69)) := ⟨_, rfl⟩
  have hWs : W.heap.size = w.heap.size + 1 + 1 + 1 := by rw [hWd]; simp
  have HP := hide (And.intro hP hQ)
  clear hP hQ
  go_enter Tryd.func77, Tryd.ntmps77
  go_wp2_with fail
  rw [← hWd] at A B C hB ⊢
  clear hWd
  refine held_begin (fun w' => WholeAt w' w.heap.size g k p ∧ NatAt w' (w.heap.size + 1) j q) (by kernel_rfl) ?_
  have hS : WholeAt W.drew w.heap.size g k p ∧ NatAt W.drew (w.heap.size + 1) j q := ⟨A, B⟩
  refine held_valS 0 (some 5) rfl rfl (by kernel_rfl) (by kernel_rfl) (by kernel_rfl) noPanic_put rfl (.pointer (some ⟨w.heap.size, 0, none⟩)) (fun _ _ => by go_simp) hS ?_
  simp only [Act.put, List.setIfInBounds_toArray, List.set_cons_zero, List.set_cons_succ]
  refine held_valS 1 (some 6) rfl rfl (by kernel_rfl) (by kernel_rfl) (by kernel_rfl) noPanic_put rfl (.bool g) (fun _ h => by have c := h.1.neg; go_simp) hS ?_
  simp only [Act.put, List.setIfInBounds_toArray, List.set_cons_zero, List.set_cons_succ]
  refine held_valS 2 (some 7) rfl rfl (by kernel_rfl) (by kernel_rfl) (by kernel_rfl) noPanic_put rfl (.pointer (some ⟨w.heap.size, 1, none⟩)) (fun _ _ => by go_simp) hS ?_
  simp only [Act.put, List.setIfInBounds_toArray, List.set_cons_zero, List.set_cons_succ]
  refine held_valS 3 (some 8) rfl rfl (by kernel_rfl) (by kernel_rfl) (by kernel_rfl) noPanic_put rfl (.agg (natC k p)) (fun _ h => run_mid_nat _ rfl w.heap.size 1 rfl k p h.1.size hp) hS ?_
  simp only [Act.put, List.setIfInBounds_toArray, List.set_cons_zero, List.set_cons_succ]
  refine held_valS 4 (some 9) rfl rfl (by kernel_rfl) (by kernel_rfl) (by kernel_rfl) noPanic_put rfl (.agg (natC j q)) (fun _ h => run_row_nat' _ rfl (w.heap.size + 1) rfl j q h.2 hq) hS ?_
  simp only [Act.put, List.setIfInBounds_toArray, List.set_cons_zero, List.set_cons_succ]
  refine held_call 5 (some 10) (by kernel_rfl) rfl rfl rfl 23 #[.agg (natC k p), .agg (natC j q)] (by go_simp) _ (times_any W.drew HP.out.1 HP.out.2 hk hj) ?_
  rintro e w1 ⟨i, r, rfl, hR1, hW1⟩
  have hW1 : Below W.heap.size W w1 := ⟨hW1.os, hW1.tape, hW1.output, hW1.size, hW1.block⟩
  have hs1 := hW1.size
  have hr := hR1.len
  have HR1 := hide hR1
  have S1 : WholeAt w1 w.heap.size g k p ∧ NatAt w1 (w.heap.size + 1) j q := ⟨RowAt.below A hW1 (by omega), B.below hW1 (by omega)⟩
  have C1 : WholeAt w1 (w.heap.size + 1 + 1) false 0 zP := RowAt.below C hW1 (by omega)
  have hB1 : Below w.heap.size w w1 := hB.trans (hW1.mono hB.size)
  clear A B C hB hS hR1 hW1
  refine ⟨_, rfl, S1, ?_⟩
  simp only [Act.put, List.setIfInBounds_toArray, List.set_cons_zero, List.set_cons_succ]
  refine held_valS 6 (some 11) rfl rfl (by kernel_rfl) (by kernel_rfl) (by kernel_rfl) noPanic_put rfl (.agg (wholeC g i r)) (fun _ _ => run_bw _ _ rfl g i r hr rfl rfl) S1 ?_
  simp only [Act.put, List.setIfInBounds_toArray, List.set_cons_zero, List.set_cons_succ]
  refine held_store_whole 7 (by kernel_rfl) rfl rfl _ _ rfl rfl (w.heap.size + 1 + 1) g i r rfl rfl false 0 zP C1 zP_len hr ?_
  intro w2 hN2 hg2 hs2
  refine ⟨⟨RowAt.grown S1.1 hg2 (by simp; omega), S1.2.grown hg2 (by simp)⟩, ?_⟩
  refine wpAnyH_done (by kernel_rfl) ?_ _
  refine NoPanic.normal ?_
  go_wp2
  refine bodyPost_ret (v := .agg (wholeC g i r)) (res_whole Tryd.results77 _ _ (w.heap.size + 1 + 1) _ _ _ rfl hN2 hr) rfl ⟨i, r, rfl, HR1.out, ?_⟩
  exact hB1.grown hg2 (by have := hB1.size; omega) (by intro k hk; cases hk; omega)

set_option maxHeartbeats 1000000 in
set_option maxRecDepth 100000 in
theorem added_true_true {n m k j : Nat} {p q : List Int} (w : World) (hP : Rep n k p) (hQ : Rep m j q) (hk : k ≤ 201) (hj : j ≤ 201) (h0 : n ≠ 0) :
    Calls Tryd.prog 90 #[.agg (wholeC true k p), .agg (wholeC true j q)] w fun e w' => ∃ (i : Nat) (r : List Int), e = .returned (.agg (wholeC (decide (sg true n + sg true m < 0)) i r)) ∧ Rep (sg true n + sg true m).natAbs i r ∧ Below w.heap.size w w' := by
  have hz := zero_nat.1
  have hz1 := zero_whole.1
  have hp := hP.len
  have hq := hQ.len
  have A : WholeAt (((w.alloc (.cells (wholeC true k p) 69)).alloc (.cells (wholeC true j q) 69)).alloc (.cells (wholeC false 0 zP) 69)) w.heap.size true k p := RowAt.old (RowAt.old (WholeAt.new w true k p) _) _
  have B : WholeAt (((w.alloc (.cells (wholeC true k p) 69)).alloc (.cells (wholeC true j q) 69)).alloc (.cells (wholeC false 0 zP) 69)) (w.heap.size + 1) true j q := by
    have := RowAt.old (WholeAt.new (w.alloc (.cells (wholeC true k p) 69)) true j q) (.cells (wholeC false 0 zP) 69)
    simp only [World.size_alloc] at this; exact this
  have C : WholeAt (((w.alloc (.cells (wholeC true k p) 69)).alloc (.cells (wholeC true j q) 69)).alloc (.cells (wholeC false 0 zP) 69)) (w.heap.size + 1 + 1) false 0 zP := by
    have := WholeAt.new ((w.alloc (.cells (wholeC true k p) 69)).alloc (.cells (wholeC true j q) 69)) false 0 zP
    simp only [World.size_alloc] at this; exact this
  have hB : Below w.heap.size w (((w.alloc (.cells (wholeC true k p) 69)).alloc (.cells (wholeC true j q) 69)).alloc (.cells (wholeC false 0 zP) 69)) := (((Below.refl _ _).alloc (Nat.le_refl _) _).alloc (by simp) _).alloc (by simp; omega) _
  obtain ⟨W, hWd⟩ : ∃ W, W = (((w.alloc (.cells (wholeC true k p) 69)).alloc (.cells (wholeC true j q) 69)).alloc (.cells (wholeC false 0 zP) 69)) := ⟨_, rfl⟩
  have hWs : W.heap.size = w.heap.size + 1 + 1 + 1 := by rw [hWd]; simp
  have HP := hide (And.intro hP hQ)
  clear hP hQ
  have a0 := A.neg
  have b0 := B.neg
  have HS : Hid (decide (sg true n + sg true m < 0) = true ∧ (sg true n + sg true m).natAbs = n + m) := ⟨decide_eq_true (by simp [sg]; omega), by simp [sg]; omega⟩
  clear h0
  go_enter Tryd.func90, Tryd.ntmps90
  go_wp2_with fail
  rw [← hWd] at A B C hB ⊢
  clear hWd a0 b0
  refine held_begin (fun w' => WholeAt w' w.heap.size true k p ∧ WholeAt w' (w.heap.size + 1) true j q) (by kernel_rfl) ?_
  have hS : WholeAt W.drew w.heap.size true k p ∧ WholeAt W.drew (w.heap.size + 1) true j q := ⟨A, B⟩
  refine held_valS 0 (some 12) rfl rfl (by kernel_rfl) (by kernel_rfl) (by kernel_rfl) noPanic_put rfl (.pointer (some ⟨w.heap.size, 0, none⟩)) (fun _ _ => by go_simp) hS ?_
  simp only [Act.put, List.setIfInBounds_toArray, List.set_cons_zero, List.set_cons_succ]
  refine held_valS 1 (some 13) rfl rfl (by kernel_rfl) (by kernel_rfl) (by kernel_rfl) noPanic_put rfl (.bool true) (fun _ h => by have c := h.1.neg; go_simp) hS ?_
  simp only [Act.put, List.setIfInBounds_toArray, List.set_cons_zero, List.set_cons_succ]
  refine held_valS 2 (some 14) rfl rfl (by kernel_rfl) (by kernel_rfl) (by kernel_rfl) noPanic_put rfl (.pointer (some ⟨w.heap.size, 1, none⟩)) (fun _ _ => by go_simp) hS ?_
  simp only [Act.put, List.setIfInBounds_toArray, List.set_cons_zero, List.set_cons_succ]
  refine held_valS 3 (some 15) rfl rfl (by kernel_rfl) (by kernel_rfl) (by kernel_rfl) noPanic_put rfl (.agg (natC k p)) (fun _ h => run_mid_nat _ rfl w.heap.size 1 rfl k p h.1.size hp) hS ?_
  simp only [Act.put, List.setIfInBounds_toArray, List.set_cons_zero, List.set_cons_succ]
  refine held_valS 4 (some 16) rfl rfl (by kernel_rfl) (by kernel_rfl) (by kernel_rfl) noPanic_put rfl (.pointer (some ⟨w.heap.size + 1, 1, none⟩)) (fun _ _ => by go_simp) hS ?_
  simp only [Act.put, List.setIfInBounds_toArray, List.set_cons_zero, List.set_cons_succ]
  refine held_valS 5 (some 17) rfl rfl (by kernel_rfl) (by kernel_rfl) (by kernel_rfl) noPanic_put rfl (.agg (natC j q)) (fun _ h => run_mid_nat _ rfl (w.heap.size + 1) 1 rfl j q h.2.size hq) hS ?_
  simp only [Act.put, List.setIfInBounds_toArray, List.set_cons_zero, List.set_cons_succ]
  refine held_call 6 (some 18) (by kernel_rfl) rfl rfl rfl 25 #[.agg (natC k p), .agg (natC j q)] (by go_simp) _ (plus_wide W.drew HP.out.1 HP.out.2 (by omega) (by omega)) ?_
  rintro e w1 ⟨i, r, rfl, hR1, hW1⟩
  have hW1 : Below W.heap.size W w1 := ⟨hW1.os, hW1.tape, hW1.output, hW1.size, hW1.block⟩
  have hs1 := hW1.size
  have hr := hR1.len
  have HR1 := hide hR1
  have S1 : WholeAt w1 w.heap.size true k p ∧ WholeAt w1 (w.heap.size + 1) true j q := ⟨RowAt.below A hW1 (by omega), RowAt.below B hW1 (by omega)⟩
  have C1 : WholeAt w1 (w.heap.size + 1 + 1) false 0 zP := RowAt.below C hW1 (by omega)
  have hB1 : Below w.heap.size w w1 := hB.trans (hW1.mono hB.size)
  clear A B C hB hS hR1 hW1
  refine ⟨_, rfl, S1, ?_⟩
  simp only [Act.put, List.setIfInBounds_toArray, List.set_cons_zero, List.set_cons_succ]
  refine held_valS 7 (some 19) rfl rfl (by kernel_rfl) (by kernel_rfl) (by kernel_rfl) noPanic_put rfl (.agg (wholeC true i r)) (fun _ _ => run_bw _ _ rfl true i r hr rfl rfl) S1 ?_
  simp only [Act.put, List.setIfInBounds_toArray, List.set_cons_zero, List.set_cons_succ]
  refine held_store_whole 8 (by kernel_rfl) rfl rfl _ _ rfl rfl (w.heap.size + 1 + 1) true i r rfl rfl false 0 zP C1 zP_len hr ?_
  intro w2 hN2 hg2 hs2
  refine ⟨⟨RowAt.grown S1.1 hg2 (by simp; omega), RowAt.grown S1.2 hg2 (by simp)⟩, ?_⟩
  refine wpAnyH_done (by kernel_rfl) ?_ _
  refine NoPanic.normal ?_
  go_wp2
  refine bodyPost_ret (v := .agg (wholeC true i r)) (res_whole Tryd.results90 _ _ (w.heap.size + 1 + 1) _ _ _ rfl hN2 hr) rfl ⟨i, r, by rw [HS.out.1], by rw [HS.out.2]; exact HR1.out, ?_⟩
  exact hB1.grown hg2 (by have := hB1.size; omega) (by intro k hk; cases hk; omega)

set_option maxHeartbeats 1000000 in
set_option maxRecDepth 100000 in
theorem added_false_false {n m k j : Nat} {p q : List Int} (w : World) (hP : Rep n k p) (hQ : Rep m j q) (hk : k ≤ 201) (hj : j ≤ 201) :
    Calls Tryd.prog 90 #[.agg (wholeC false k p), .agg (wholeC false j q)] w fun e w' => ∃ (i : Nat) (r : List Int), e = .returned (.agg (wholeC (decide (sg false n + sg false m < 0)) i r)) ∧ Rep (sg false n + sg false m).natAbs i r ∧ Below w.heap.size w w' := by
  have hz := zero_nat.1
  have hz1 := zero_whole.1
  have hp := hP.len
  have hq := hQ.len
  have A : WholeAt (((w.alloc (.cells (wholeC false k p) 69)).alloc (.cells (wholeC false j q) 69)).alloc (.cells (wholeC false 0 zP) 69)) w.heap.size false k p := RowAt.old (RowAt.old (WholeAt.new w false k p) _) _
  have B : WholeAt (((w.alloc (.cells (wholeC false k p) 69)).alloc (.cells (wholeC false j q) 69)).alloc (.cells (wholeC false 0 zP) 69)) (w.heap.size + 1) false j q := by
    have := RowAt.old (WholeAt.new (w.alloc (.cells (wholeC false k p) 69)) false j q) (.cells (wholeC false 0 zP) 69)
    simp only [World.size_alloc] at this; exact this
  have C : WholeAt (((w.alloc (.cells (wholeC false k p) 69)).alloc (.cells (wholeC false j q) 69)).alloc (.cells (wholeC false 0 zP) 69)) (w.heap.size + 1 + 1) false 0 zP := by
    have := WholeAt.new ((w.alloc (.cells (wholeC false k p) 69)).alloc (.cells (wholeC false j q) 69)) false 0 zP
    simp only [World.size_alloc] at this; exact this
  have hB : Below w.heap.size w (((w.alloc (.cells (wholeC false k p) 69)).alloc (.cells (wholeC false j q) 69)).alloc (.cells (wholeC false 0 zP) 69)) := (((Below.refl _ _).alloc (Nat.le_refl _) _).alloc (by simp) _).alloc (by simp; omega) _
  obtain ⟨W, hWd⟩ : ∃ W, W = (((w.alloc (.cells (wholeC false k p) 69)).alloc (.cells (wholeC false j q) 69)).alloc (.cells (wholeC false 0 zP) 69)) := ⟨_, rfl⟩
  have hWs : W.heap.size = w.heap.size + 1 + 1 + 1 := by rw [hWd]; simp
  have HP := hide (And.intro hP hQ)
  clear hP hQ
  have a0 := A.neg
  have b0 := B.neg
  have HS : Hid (decide (sg false n + sg false m < 0) = false ∧ (sg false n + sg false m).natAbs = n + m) := ⟨decide_eq_false (by simp [sg]; omega), by simp [sg]; omega⟩
  go_enter Tryd.func90, Tryd.ntmps90
  go_wp2_with fail
  rw [← hWd] at A B C hB ⊢
  clear hWd a0 b0
  refine held_begin (fun w' => WholeAt w' w.heap.size false k p ∧ WholeAt w' (w.heap.size + 1) false j q) (by kernel_rfl) ?_
  have hS : WholeAt W.drew w.heap.size false k p ∧ WholeAt W.drew (w.heap.size + 1) false j q := ⟨A, B⟩
  refine held_valS 0 (some 12) rfl rfl (by kernel_rfl) (by kernel_rfl) (by kernel_rfl) noPanic_put rfl (.pointer (some ⟨w.heap.size, 0, none⟩)) (fun _ _ => by go_simp) hS ?_
  simp only [Act.put, List.setIfInBounds_toArray, List.set_cons_zero, List.set_cons_succ]
  refine held_valS 1 (some 13) rfl rfl (by kernel_rfl) (by kernel_rfl) (by kernel_rfl) noPanic_put rfl (.bool false) (fun _ h => by have c := h.1.neg; go_simp) hS ?_
  simp only [Act.put, List.setIfInBounds_toArray, List.set_cons_zero, List.set_cons_succ]
  refine held_valS 2 (some 14) rfl rfl (by kernel_rfl) (by kernel_rfl) (by kernel_rfl) noPanic_put rfl (.pointer (some ⟨w.heap.size, 1, none⟩)) (fun _ _ => by go_simp) hS ?_
  simp only [Act.put, List.setIfInBounds_toArray, List.set_cons_zero, List.set_cons_succ]
  refine held_valS 3 (some 15) rfl rfl (by kernel_rfl) (by kernel_rfl) (by kernel_rfl) noPanic_put rfl (.agg (natC k p)) (fun _ h => run_mid_nat _ rfl w.heap.size 1 rfl k p h.1.size hp) hS ?_
  simp only [Act.put, List.setIfInBounds_toArray, List.set_cons_zero, List.set_cons_succ]
  refine held_valS 4 (some 16) rfl rfl (by kernel_rfl) (by kernel_rfl) (by kernel_rfl) noPanic_put rfl (.pointer (some ⟨w.heap.size + 1, 1, none⟩)) (fun _ _ => by go_simp) hS ?_
  simp only [Act.put, List.setIfInBounds_toArray, List.set_cons_zero, List.set_cons_succ]
  refine held_valS 5 (some 17) rfl rfl (by kernel_rfl) (by kernel_rfl) (by kernel_rfl) noPanic_put rfl (.agg (natC j q)) (fun _ h => run_mid_nat _ rfl (w.heap.size + 1) 1 rfl j q h.2.size hq) hS ?_
  simp only [Act.put, List.setIfInBounds_toArray, List.set_cons_zero, List.set_cons_succ]
  refine held_call 6 (some 18) (by kernel_rfl) rfl rfl rfl 25 #[.agg (natC k p), .agg (natC j q)] (by go_simp) _ (plus_wide W.drew HP.out.1 HP.out.2 (by omega) (by omega)) ?_
  rintro e w1 ⟨i, r, rfl, hR1, hW1⟩
  have hW1 : Below W.heap.size W w1 := ⟨hW1.os, hW1.tape, hW1.output, hW1.size, hW1.block⟩
  have hs1 := hW1.size
  have hr := hR1.len
  have HR1 := hide hR1
  have S1 : WholeAt w1 w.heap.size false k p ∧ WholeAt w1 (w.heap.size + 1) false j q := ⟨RowAt.below A hW1 (by omega), RowAt.below B hW1 (by omega)⟩
  have C1 : WholeAt w1 (w.heap.size + 1 + 1) false 0 zP := RowAt.below C hW1 (by omega)
  have hB1 : Below w.heap.size w w1 := hB.trans (hW1.mono hB.size)
  clear A B C hB hS hR1 hW1
  refine ⟨_, rfl, S1, ?_⟩
  simp only [Act.put, List.setIfInBounds_toArray, List.set_cons_zero, List.set_cons_succ]
  refine held_valS 7 (some 19) rfl rfl (by kernel_rfl) (by kernel_rfl) (by kernel_rfl) noPanic_put rfl (.agg (wholeC false i r)) (fun _ _ => run_bw _ _ rfl false i r hr rfl rfl) S1 ?_
  simp only [Act.put, List.setIfInBounds_toArray, List.set_cons_zero, List.set_cons_succ]
  refine held_store_whole 8 (by kernel_rfl) rfl rfl _ _ rfl rfl (w.heap.size + 1 + 1) false i r rfl rfl false 0 zP C1 zP_len hr ?_
  intro w2 hN2 hg2 hs2
  refine ⟨⟨RowAt.grown S1.1 hg2 (by simp; omega), RowAt.grown S1.2 hg2 (by simp)⟩, ?_⟩
  refine wpAnyH_done (by kernel_rfl) ?_ _
  refine NoPanic.normal ?_
  go_wp2
  refine bodyPost_ret (v := .agg (wholeC false i r)) (res_whole Tryd.results90 _ _ (w.heap.size + 1 + 1) _ _ _ rfl hN2 hr) rfl ⟨i, r, by rw [HS.out.1], by rw [HS.out.2]; exact HR1.out, ?_⟩
  exact hB1.grown hg2 (by have := hB1.size; omega) (by intro k hk; cases hk; omega)

set_option maxHeartbeats 1000000 in
set_option maxRecDepth 100000 in
theorem added_true_false {n m k j : Nat} {p q : List Int} (w : World) (hP : Rep n k p) (hQ : Rep m j q) (hk : k ≤ 201) (hj : j ≤ 201) :
    Calls Tryd.prog 90 #[.agg (wholeC true k p), .agg (wholeC false j q)] w fun e w' => ∃ (i : Nat) (r : List Int), e = .returned (.agg (wholeC (decide (sg true n + sg false m < 0)) i r)) ∧ Rep (sg true n + sg false m).natAbs i r ∧ Below w.heap.size w w' := by
  have hz := zero_nat.1
  have hz1 := zero_whole.1
  have hp := hP.len
  have hq := hQ.len
  have A : WholeAt (((w.alloc (.cells (wholeC true k p) 69)).alloc (.cells (wholeC false j q) 69)).alloc (.cells (wholeC false 0 zP) 69)) w.heap.size true k p := RowAt.old (RowAt.old (WholeAt.new w true k p) _) _
  have B : WholeAt (((w.alloc (.cells (wholeC true k p) 69)).alloc (.cells (wholeC false j q) 69)).alloc (.cells (wholeC false 0 zP) 69)) (w.heap.size + 1) false j q := by
    have := RowAt.old (WholeAt.new (w.alloc (.cells (wholeC true k p) 69)) false j q) (.cells (wholeC false 0 zP) 69)
    simp only [World.size_alloc] at this; exact this
  have C : WholeAt (((w.alloc (.cells (wholeC true k p) 69)).alloc (.cells (wholeC false j q) 69)).alloc (.cells (wholeC false 0 zP) 69)) (w.heap.size + 1 + 1) false 0 zP := by
    have := WholeAt.new ((w.alloc (.cells (wholeC true k p) 69)).alloc (.cells (wholeC false j q) 69)) false 0 zP
    simp only [World.size_alloc] at this; exact this
  have hB : Below w.heap.size w (((w.alloc (.cells (wholeC true k p) 69)).alloc (.cells (wholeC false j q) 69)).alloc (.cells (wholeC false 0 zP) 69)) := (((Below.refl _ _).alloc (Nat.le_refl _) _).alloc (by simp) _).alloc (by simp; omega) _
  obtain ⟨W, hWd⟩ : ∃ W, W = (((w.alloc (.cells (wholeC true k p) 69)).alloc (.cells (wholeC false j q) 69)).alloc (.cells (wholeC false 0 zP) 69)) := ⟨_, rfl⟩
  have hWs : W.heap.size = w.heap.size + 1 + 1 + 1 := by rw [hWd]; simp
  have HP := hide (And.intro hP hQ)
  clear hP hQ
  have a0 := A.neg
  have b0 := B.neg
  go_enter Tryd.func90, Tryd.ntmps90
  go_wp2_with (first | (refine load_mid_nat rfl _ rfl w.heap.size 1 rfl k p A.size hp ?_) | (refine load_mid_nat rfl _ rfl (w.heap.size + 1) 1 rfl j q B.size hq ?_))
  rw [← hWd] at A B C hB ⊢
  clear hWd a0 b0
  refine (minus_any 1 0 W HP.out.1 HP.out.2 (by omega) (by omega) (by omega) (by omega)).mono ?_
  rintro e w1 (⟨i, r, x, rfl, hR1, hx, hW1⟩ | ⟨rfl, hx, hW1⟩)
  · have hs1 := hW1.size
    have hr := hR1.len
    have HR1 := hide hR1
    have hx' : (x : Int) = (n : Int) - (m : Int) := by simpa using hx
    have HX : Hid ((true && decide (0 < i)) = decide (sg true n + sg false m < 0) ∧ (sg true n + sg false m).natAbs = x) := by
      have hz := hR1.zero_iff
      have h1 : (sg true n + sg false m) = sg true x := by simp only [sg, if_true, Bool.false_eq_true, if_false]; omega
      rw [h1, sg_abs]
      refine ⟨?_, rfl⟩
      by_cases e : i = 0
      · have := hz.1 e; subst this; subst e; simp [sg]
      · have e2 : x ≠ 0 := fun e' => e (hz.2 e')
        simp only [sg, if_true, decide_eq_true (show 0 < i by omega)]
        first | (rw [decide_eq_true (show -(x : Int) < 0 by omega)]; rfl) | (rw [decide_eq_false (show ¬ (x : Int) < 0 by omega)]; rfl)
    have A1 : WholeAt w1 w.heap.size true k p := RowAt.below A hW1 (by omega)
    have C1 : WholeAt w1 (w.heap.size + 1 + 1) false 0 zP := RowAt.below C hW1 (by omega)
    have hB1 : Below w.heap.size w w1 := hB.trans (hW1.mono hB.size)
    have F1 := NatAt.new w1 0 zP
    clear A B C hB hR1 hW1 hx hx'
    go_wp2_with (first | (refine store_nat rfl _ _ rfl rfl w1.heap.size i r rfl rfl 0 zP F1 zP_len hr ?_; intro w2 hN2 hg2 hs2; have A2 : WholeAt w2 w.heap.size true k p := RowAt.grown (RowAt.old A1 (.cells (natC 0 zP) 40)) hg2 (by simp; omega); have a2 := A2.neg) | (refine load_nat rfl _ rfl w1.heap.size rfl i r hN2 hr ?_))
    have C2 : WholeAt w2 (w.heap.size + 1 + 1) false 0 zP := RowAt.grown (RowAt.old C1 (.cells (natC 0 zP) 40)) hg2 (by simp; omega)
    have hB2 : Below w.heap.size w w2 := (hB1.alloc (by have := hB1.size; omega) _).grown hg2 (by have := hB1.size; simp; omega) (by intro k hk; cases hk; omega)
    have hs2' : w2.heap.size = w1.heap.size + 1 := by rw [hs2]; simp
    refine (wholeOf_any true i r w2 hr).mono ?_
    rintro e w3 ⟨rfl, hW3⟩
    have C3 : WholeAt w3 (w.heap.size + 1 + 1) false 0 zP := RowAt.below C2 hW3 (by omega)
    have hB3 : Below w.heap.size w w3 := hB2.trans (hW3.mono hB2.size)
    obtain ⟨G, hG⟩ : ∃ G, G = (true && decide (0 < i)) := ⟨_, rfl⟩
    rw [← hG]
    have HG := hide hG
    clear hG A1 C1 F1 hN2 hg2 hs2 A2 a2 C2 hB1 hB2 hW3
    go_wp2_with (refine store_whole rfl _ _ rfl rfl (w.heap.size + 1 + 1) G i r rfl rfl false 0 zP C3 zP_len hr ?_; intro w4 hN4 hg4 hs4)
    refine bodyPost_ret (v := .agg (wholeC G i r)) (res_whole Tryd.results90 _ _ (w.heap.size + 1 + 1) _ _ _ rfl hN4 hr) rfl ⟨i, r, by rw [HG.out, HX.out.1], by rw [HX.out.2]; exact HR1.out, ?_⟩
    exact hB3.grown hg4 (by have := hB3.size; omega) (by intro k hk; cases hk; omega)
  · have hs1 := hW1.size
    have hx' : (n : Int) < (m : Int) := by simpa using hx
    have A1 : WholeAt w1 w.heap.size true k p := RowAt.below A hW1 (by omega)
    have B1 : WholeAt w1 (w.heap.size + 1) false j q := RowAt.below B hW1 (by omega)
    have C1 : WholeAt w1 (w.heap.size + 1 + 1) false 0 zP := RowAt.below C hW1 (by omega)
    have hB1 : Below w.heap.size w w1 := hB.trans (hW1.mono hB.size)
    have F1 := NatAt.new w1 0 zP
    have HX := hide hx'
    clear A B C hB hW1 hx hx'
    go_wp2_with (first | (refine store_nat rfl _ _ rfl rfl w1.heap.size 0 zP rfl rfl 0 zP F1 zP_len zP_len ?_; intro w2 hN2 hg2 hs2; have A2 : WholeAt w2 w.heap.size true k p := RowAt.grown (RowAt.old A1 (.cells (natC 0 zP) 40)) hg2 (by simp; omega); have B2 : WholeAt w2 (w.heap.size + 1) false j q := RowAt.grown (RowAt.old B1 (.cells (natC 0 zP) 40)) hg2 (by simp; omega)) | (refine load_mid_nat rfl _ rfl (w.heap.size + 1) 1 rfl j q B2.size hq ?_) | (refine load_mid_nat rfl _ rfl w.heap.size 1 rfl k p A2.size hp ?_))
    have C2 : WholeAt w2 (w.heap.size + 1 + 1) false 0 zP := RowAt.grown (RowAt.old C1 (.cells (natC 0 zP) 40)) hg2 (by simp; omega)
    have hB2 : Below w.heap.size w w2 := (hB1.alloc (by have := hB1.size; omega) _).grown hg2 (by have := hB1.size; simp; omega) (by intro k hk; cases hk; omega)
    have hs2' : w2.heap.size = w1.heap.size + 1 := by rw [hs2]; simp
    refine (minus_any 1 0 w2 HP.out.2 HP.out.1 (by omega) (by omega) (by omega) (by omega)).mono ?_
    rintro e w3 (⟨i, r, x, rfl, hR3, hx, hW3⟩ | ⟨rfl, hx, hW3⟩)
    · have hr := hR3.len
      have HR3 := hide hR3
      have hx' : (x : Int) = (m : Int) - (n : Int) := by simpa using hx
      have HY : Hid (decide (sg true n + sg false m < 0) = false ∧ (sg true n + sg false m).natAbs = x) := by
        have := HX.out
        have h1 : (sg true n + sg false m) = sg false x := by simp only [sg, if_true, Bool.false_eq_true, if_false]; omega
        rw [h1, sg_abs]
        refine ⟨?_, rfl⟩
        simp only [sg, Bool.false_eq_true, if_false]
        first | exact decide_eq_true (by omega) | exact decide_eq_false (by omega)
      have N3 : NatAt w3 w1.heap.size 0 zP := hN2.below hW3 (by omega)
      have B3 : WholeAt w3 (w.heap.size + 1) false j q := RowAt.below B2 hW3 (by omega)
      have C3 : WholeAt w3 (w.heap.size + 1 + 1) false 0 zP := RowAt.below C2 hW3 (by omega)
      have hs3 := hW3.size
      have hB3 : Below w.heap.size w w3 := hB2.trans (hW3.mono hB2.size)
      clear A1 B1 C1 F1 hN2 hg2 hs2 A2 B2 C2 hB1 hB2 hR3 hW3 hx hx'
      go_wp2_with (first | (refine store_nat rfl _ _ rfl rfl w1.heap.size i r rfl rfl 0 zP N3 zP_len hr ?_; intro w4 hN4 hg4 hs4; have B4 : WholeAt w4 (w.heap.size + 1) false j q := RowAt.grown B3 hg4 (by simp; omega); have b4 := B4.neg) | (refine load_nat rfl _ rfl w1.heap.size rfl i r hN4 hr ?_) | (refine build_whole rfl _ _ rfl _ rfl false i r hr rfl rfl ?_) | (refine store_whole rfl _ _ rfl rfl (w.heap.size + 1 + 1) false i r rfl rfl false 0 zP (RowAt.grown C3 hg4 (by simp; omega)) zP_len hr ?_; intro w5 hN5 hg5 hs5))
      refine bodyPost_ret (v := .agg (wholeC false i r)) (res_whole Tryd.results90 _ _ (w.heap.size + 1 + 1) _ _ _ rfl hN5 hr) rfl ⟨i, r, by rw [HY.out.1], by rw [HY.out.2]; exact HR3.out, ?_⟩
      exact (hB3.grown hg4 (by have := hB3.size; omega) (by intro k hk; cases hk; omega)).grown hg5 (by have := hB3.size; omega) (by intro k hk; cases hk; omega)
    · exfalso
      have := HX.out
      have hx' : (m : Int) < (n : Int) := by simpa using hx
      omega

set_option maxHeartbeats 1000000 in
set_option maxRecDepth 100000 in
theorem added_false_true {n m k j : Nat} {p q : List Int} (w : World) (hP : Rep n k p) (hQ : Rep m j q) (hk : k ≤ 201) (hj : j ≤ 201) :
    Calls Tryd.prog 90 #[.agg (wholeC false k p), .agg (wholeC true j q)] w fun e w' => ∃ (i : Nat) (r : List Int), e = .returned (.agg (wholeC (decide (sg false n + sg true m < 0)) i r)) ∧ Rep (sg false n + sg true m).natAbs i r ∧ Below w.heap.size w w' := by
  have hz := zero_nat.1
  have hz1 := zero_whole.1
  have hp := hP.len
  have hq := hQ.len
  have A : WholeAt (((w.alloc (.cells (wholeC false k p) 69)).alloc (.cells (wholeC true j q) 69)).alloc (.cells (wholeC false 0 zP) 69)) w.heap.size false k p := RowAt.old (RowAt.old (WholeAt.new w false k p) _) _
  have B : WholeAt (((w.alloc (.cells (wholeC false k p) 69)).alloc (.cells (wholeC true j q) 69)).alloc (.cells (wholeC false 0 zP) 69)) (w.heap.size + 1) true j q := by
    have := RowAt.old (WholeAt.new (w.alloc (.cells (wholeC false k p) 69)) true j q) (.cells (wholeC false 0 zP) 69)
    simp only [World.size_alloc] at this; exact this
  have C : WholeAt (((w.alloc (.cells (wholeC false k p) 69)).alloc (.cells (wholeC true j q) 69)).alloc (.cells (wholeC false 0 zP) 69)) (w.heap.size + 1 + 1) false 0 zP := by
    have := WholeAt.new ((w.alloc (.cells (wholeC false k p) 69)).alloc (.cells (wholeC true j q) 69)) false 0 zP
    simp only [World.size_alloc] at this; exact this
  have hB : Below w.heap.size w (((w.alloc (.cells (wholeC false k p) 69)).alloc (.cells (wholeC true j q) 69)).alloc (.cells (wholeC false 0 zP) 69)) := (((Below.refl _ _).alloc (Nat.le_refl _) _).alloc (by simp) _).alloc (by simp; omega) _
  obtain ⟨W, hWd⟩ : ∃ W, W = (((w.alloc (.cells (wholeC false k p) 69)).alloc (.cells (wholeC true j q) 69)).alloc (.cells (wholeC false 0 zP) 69)) := ⟨_, rfl⟩
  have hWs : W.heap.size = w.heap.size + 1 + 1 + 1 := by rw [hWd]; simp
  have HP := hide (And.intro hP hQ)
  clear hP hQ
  have a0 := A.neg
  have b0 := B.neg
  go_enter Tryd.func90, Tryd.ntmps90
  go_wp2_with (first | (refine load_mid_nat rfl _ rfl w.heap.size 1 rfl k p A.size hp ?_) | (refine load_mid_nat rfl _ rfl (w.heap.size + 1) 1 rfl j q B.size hq ?_))
  rw [← hWd] at A B C hB ⊢
  clear hWd a0 b0
  refine (minus_any 1 0 W HP.out.1 HP.out.2 (by omega) (by omega) (by omega) (by omega)).mono ?_
  rintro e w1 (⟨i, r, x, rfl, hR1, hx, hW1⟩ | ⟨rfl, hx, hW1⟩)
  · have hs1 := hW1.size
    have hr := hR1.len
    have HR1 := hide hR1
    have hx' : (x : Int) = (n : Int) - (m : Int) := by simpa using hx
    have HX : Hid ((false && decide (0 < i)) = decide (sg false n + sg true m < 0) ∧ (sg false n + sg true m).natAbs = x) := by
      have hz := hR1.zero_iff
      have h1 : (sg false n + sg true m) = sg false x := by simp only [sg, if_true, Bool.false_eq_true, if_false]; omega
      rw [h1, sg_abs]
      refine ⟨?_, rfl⟩
      by_cases e : i = 0
      · have := hz.1 e; subst this; subst e; simp [sg]
      · have e2 : x ≠ 0 := fun e' => e (hz.2 e')
        simp only [sg, Bool.false_eq_true, if_false, decide_eq_true (show 0 < i by omega)]
        first | (rw [decide_eq_true (show -(x : Int) < 0 by omega)]; rfl) | (rw [decide_eq_false (show ¬ (x : Int) < 0 by omega)]; rfl)
    have A1 : WholeAt w1 w.heap.size false k p := RowAt.below A hW1 (by omega)
    have C1 : WholeAt w1 (w.heap.size + 1 + 1) false 0 zP := RowAt.below C hW1 (by omega)
    have hB1 : Below w.heap.size w w1 := hB.trans (hW1.mono hB.size)
    have F1 := NatAt.new w1 0 zP
    clear A B C hB hR1 hW1 hx hx'
    go_wp2_with (first | (refine store_nat rfl _ _ rfl rfl w1.heap.size i r rfl rfl 0 zP F1 zP_len hr ?_; intro w2 hN2 hg2 hs2; have A2 : WholeAt w2 w.heap.size false k p := RowAt.grown (RowAt.old A1 (.cells (natC 0 zP) 40)) hg2 (by simp; omega); have a2 := A2.neg) | (refine load_nat rfl _ rfl w1.heap.size rfl i r hN2 hr ?_))
    have C2 : WholeAt w2 (w.heap.size + 1 + 1) false 0 zP := RowAt.grown (RowAt.old C1 (.cells (natC 0 zP) 40)) hg2 (by simp; omega)
    have hB2 : Below w.heap.size w w2 := (hB1.alloc (by have := hB1.size; omega) _).grown hg2 (by have := hB1.size; simp; omega) (by intro k hk; cases hk; omega)
    have hs2' : w2.heap.size = w1.heap.size + 1 := by rw [hs2]; simp
    refine (wholeOf_any false i r w2 hr).mono ?_
    rintro e w3 ⟨rfl, hW3⟩
    have C3 : WholeAt w3 (w.heap.size + 1 + 1) false 0 zP := RowAt.below C2 hW3 (by omega)
    have hB3 : Below w.heap.size w w3 := hB2.trans (hW3.mono hB2.size)
    obtain ⟨G, hG⟩ : ∃ G, G = (false && decide (0 < i)) := ⟨_, rfl⟩
    rw [← hG]
    have HG := hide hG
    clear hG A1 C1 F1 hN2 hg2 hs2 A2 a2 C2 hB1 hB2 hW3
    go_wp2_with (refine store_whole rfl _ _ rfl rfl (w.heap.size + 1 + 1) G i r rfl rfl false 0 zP C3 zP_len hr ?_; intro w4 hN4 hg4 hs4)
    refine bodyPost_ret (v := .agg (wholeC G i r)) (res_whole Tryd.results90 _ _ (w.heap.size + 1 + 1) _ _ _ rfl hN4 hr) rfl ⟨i, r, by rw [HG.out, HX.out.1], by rw [HX.out.2]; exact HR1.out, ?_⟩
    exact hB3.grown hg4 (by have := hB3.size; omega) (by intro k hk; cases hk; omega)
  · have hs1 := hW1.size
    have hx' : (n : Int) < (m : Int) := by simpa using hx
    have A1 : WholeAt w1 w.heap.size false k p := RowAt.below A hW1 (by omega)
    have B1 : WholeAt w1 (w.heap.size + 1) true j q := RowAt.below B hW1 (by omega)
    have C1 : WholeAt w1 (w.heap.size + 1 + 1) false 0 zP := RowAt.below C hW1 (by omega)
    have hB1 : Below w.heap.size w w1 := hB.trans (hW1.mono hB.size)
    have F1 := NatAt.new w1 0 zP
    have HX := hide hx'
    clear A B C hB hW1 hx hx'
    go_wp2_with (first | (refine store_nat rfl _ _ rfl rfl w1.heap.size 0 zP rfl rfl 0 zP F1 zP_len zP_len ?_; intro w2 hN2 hg2 hs2; have A2 : WholeAt w2 w.heap.size false k p := RowAt.grown (RowAt.old A1 (.cells (natC 0 zP) 40)) hg2 (by simp; omega); have B2 : WholeAt w2 (w.heap.size + 1) true j q := RowAt.grown (RowAt.old B1 (.cells (natC 0 zP) 40)) hg2 (by simp; omega)) | (refine load_mid_nat rfl _ rfl (w.heap.size + 1) 1 rfl j q B2.size hq ?_) | (refine load_mid_nat rfl _ rfl w.heap.size 1 rfl k p A2.size hp ?_))
    have C2 : WholeAt w2 (w.heap.size + 1 + 1) false 0 zP := RowAt.grown (RowAt.old C1 (.cells (natC 0 zP) 40)) hg2 (by simp; omega)
    have hB2 : Below w.heap.size w w2 := (hB1.alloc (by have := hB1.size; omega) _).grown hg2 (by have := hB1.size; simp; omega) (by intro k hk; cases hk; omega)
    have hs2' : w2.heap.size = w1.heap.size + 1 := by rw [hs2]; simp
    refine (minus_any 1 0 w2 HP.out.2 HP.out.1 (by omega) (by omega) (by omega) (by omega)).mono ?_
    rintro e w3 (⟨i, r, x, rfl, hR3, hx, hW3⟩ | ⟨rfl, hx, hW3⟩)
    · have hr := hR3.len
      have HR3 := hide hR3
      have hx' : (x : Int) = (m : Int) - (n : Int) := by simpa using hx
      have HY : Hid (decide (sg false n + sg true m < 0) = true ∧ (sg false n + sg true m).natAbs = x) := by
        have := HX.out
        have h1 : (sg false n + sg true m) = sg true x := by simp only [sg, if_true, Bool.false_eq_true, if_false]; omega
        rw [h1, sg_abs]
        refine ⟨?_, rfl⟩
        simp only [sg, if_true]
        first | exact decide_eq_true (by omega) | exact decide_eq_false (by omega)
      have N3 : NatAt w3 w1.heap.size 0 zP := hN2.below hW3 (by omega)
      have B3 : WholeAt w3 (w.heap.size + 1) true j q := RowAt.below B2 hW3 (by omega)
      have C3 : WholeAt w3 (w.heap.size + 1 + 1) false 0 zP := RowAt.below C2 hW3 (by omega)
      have hs3 := hW3.size
      have hB3 : Below w.heap.size w w3 := hB2.trans (hW3.mono hB2.size)
      clear A1 B1 C1 F1 hN2 hg2 hs2 A2 B2 C2 hB1 hB2 hR3 hW3 hx hx'
      go_wp2_with (first | (refine store_nat rfl _ _ rfl rfl w1.heap.size i r rfl rfl 0 zP N3 zP_len hr ?_; intro w4 hN4 hg4 hs4; have B4 : WholeAt w4 (w.heap.size + 1) true j q := RowAt.grown B3 hg4 (by simp; omega); have b4 := B4.neg) | (refine load_nat rfl _ rfl w1.heap.size rfl i r hN4 hr ?_) | (refine build_whole rfl _ _ rfl _ rfl true i r hr rfl rfl ?_) | (refine store_whole rfl _ _ rfl rfl (w.heap.size + 1 + 1) true i r rfl rfl false 0 zP (RowAt.grown C3 hg4 (by simp; omega)) zP_len hr ?_; intro w5 hN5 hg5 hs5))
      refine bodyPost_ret (v := .agg (wholeC true i r)) (res_whole Tryd.results90 _ _ (w.heap.size + 1 + 1) _ _ _ rfl hN5 hr) rfl ⟨i, r, by rw [HY.out.1], by rw [HY.out.2]; exact HR3.out, ?_⟩
      exact (hB3.grown hg4 (by have := hB3.size; omega) (by intro k hk; cases hk; omega)).grown hg5 (by have := hB3.size; omega) (by intro k hk; cases hk; omega)
    · exfalso
      have := HX.out
      have hx' : (m : Int) < (n : Int) := by simpa using hx
      omega

theorem added_any {n m k j : Nat} {p q : List Int} (g g' : Bool) (w : World) (hP : Rep n k p) (hQ : Rep m j q) (hk : k ≤ 201) (hj : j ≤ 201) (h0 : g = true → n ≠ 0) :
    Calls Tryd.prog 90 #[.agg (wholeC g k p), .agg (wholeC g' j q)] w fun e w' => ∃ (i : Nat) (r : List Int), e = .returned (.agg (wholeC (decide (sg g n + sg g' m < 0)) i r)) ∧ Rep (sg g n + sg g' m).natAbs i r ∧ Below w.heap.size w w' := by
  cases g <;> cases g'
  · exact added_false_false w hP hQ hk hj
  · exact added_false_true w hP hQ hk hj
  · exact added_true_false w hP hQ hk hj
  · exact added_true_true w hP hQ hk hj (h0 rfl)
end Go.Proofs.YthbnacikomimfaaDoor

/-
  A drawn region at whose end two calls, the second behind the first, and two new variables come up in any order (x, y := f(..), g(..)): written by gen/twotwo.py.
-/
namespace Go.Proofs.YthbnacikomimfaaDoor
open Go.RowKit
set_option linter.unusedVariables false

/-- One of the operations that may come up, a call. -/
theorem ready_call2 {ops : Array Oper} {Q : Exit → Act → World → Prop} {md : Region.Mode} {S : World → Prop} {o : Oper} {fuel : Nat} {listed : Array Bool} {a : Act} {w : World} {rs : List Nat} (i : Nat) (d : Option Tmp) (hi : ops[i]? = some o) (hw : Region.wanted o (yielded ops a.tmps) = true) (hd : o.dst = d) (f : FuncId) (args : Array Value)
    (he : (execOp a.eval o).run Tryd.prog w = .ok (.enter f args) w) (R : Ending → World → Prop) (hc : Calls Tryd.prog f args w R)
    (h : ∀ e w', R e w' → ∃ v, e = .returned v ∧ S w' ∧ wpAnyH Tryd.prog md ops Q S fuel (listed.setIfInBounds i true) (a.put d v) w') (hs : AllReadyH Tryd.prog md ops Q S fuel listed a w rs) : AllReadyH Tryd.prog md ops Q S fuel listed a w (i :: rs) := by
  subst hd
  refine AllReadyH.cons hi (fun K hK => ?_) hs
  rw [if_pos hw]
  unfold Oper.wp
  rw [he]
  simp only [Oper.upon]
  refine hc.mono ?_
  intro e w' hR
  obtain ⟨v, rfl, hS, hn⟩ := h e w' hR
  exact hK.out _ _ hS (fun _ => hn)
/-- One of the operations that may come up gives a value and changes the world. -/
theorem ready_val2 {ops : Array Oper} {Q : Exit → Act → World → Prop} {md : Region.Mode} {S : World → Prop} {o : Oper} {fuel : Nat} {listed : Array Bool} {a : Act} {w : World} {rs : List Nat} (i : Nat) (d : Option Tmp) (hi : ops[i]? = some o) (hw : Region.wanted o (yielded ops a.tmps) = true) (hd : o.dst = d) (v : Value) (w' : World)
    (he : (execOp a.eval o).run Tryd.prog w = .ok (.value v) w') (hS : S w') (h : wpAnyH Tryd.prog md ops Q S fuel (listed.setIfInBounds i true) (a.put d v) w') (hs : AllReadyH Tryd.prog md ops Q S fuel listed a w rs) : AllReadyH Tryd.prog md ops Q S fuel listed a w (i :: rs) := by
  subst hd
  refine AllReadyH.cons hi (fun K hK => ?_) hs
  rw [if_pos hw]
  unfold Oper.wp
  rw [he]
  exact hK.out _ _ hS (fun _ => h)
theorem put_comm2 (a : Act) (i j : Nat) (u v : Value) (h : i ≠ j) : (a.put (some i) u).put (some j) v = (a.put (some j) v).put (some i) u := by
  simp only [Act.put]
  congr 1
  exact Array.setIfInBounds_comm u v h
theorem put_ne2 (a : Act) (i j : Nat) (v : Value) (h : i ≠ j) : (a.put (some i) v).eval (.tmp j) = a.eval (.tmp j) := by
  simp [Act.put, Act.eval, Array.getD_eq_getD_getElem?, Array.getElem?_setIfInBounds_ne h]
theorem run_call_2 {o : Oper} {a : Act} {w : World} {f : FuncId} {x y : Operand} {u v : Value} {ts : Array TypeId} (hcf : ∀ args w, (callFunc f args).run Tryd.prog w = .ok (.enter f args) w) (ho : o.op = .call { callee := .value (.func f), args := #[x, y], argTypes := ts }) (hx : a.eval x = u) (hy : a.eval y = v) :
    (execOp a.eval o).run Tryd.prog w = .ok (.enter f #[u, v]) w := by
  subst hx hy
  unfold execOp
  simp only [ho]
  go_simp
theorem run_alloc1 {o : Oper} {a : Act} {w : World} {T : TypeId} {zero : Array Value} (ho : o.op = .alloc T) (hz : ∀ w, (zeroValue T).run Tryd.prog w = .ok (.agg zero) w) :
    (execOp a.eval o).run Tryd.prog w = .ok (.value (.pointer (some ⟨w.heap.size, 0, none⟩))) (w.alloc (.cells zero T)) := by
  unfold execOp
  simp only [ho]
  go_simp

set_option maxHeartbeats 1000000 in
theorem two_two {ops : Array Oper} {Q : Exit → Act → World → Prop} {md : Region.Mode} {S : World → Prop} {fuel : Nat} {listed : Array Bool} {a : Act} {w : World} (i1 i2 ia ib : Nat) (d1 d2 da db : Tmp) (o1 o2 oa ob : Oper) (T : TypeId) (zero : Array Value) (f1 f2 : FuncId) (p1 q1 p2 q2 : Nat) (u1 t1 u2 t2 : Value) {ts1 ts2 : Array TypeId} (R1 R2 : Value → Prop)
    (hi1 : ops[i1]? = some o1) (hi2 : ops[i2]? = some o2) (hia : ops[ia]? = some oa) (hib : ops[ib]? = some ob) (hd1 : o1.dst = some d1) (hd2 : o2.dst = some d2) (hda : oa.dst = some da) (hdb : ob.dst = some db)
    (g1 : ∀ ts, Region.wanted o1 ts = true) (g2 : ∀ ts, Region.wanted o2 ts = true) (ga : ∀ ts, Region.wanted oa ts = true) (gb : ∀ ts, Region.wanted ob ts = true)
    (hf1 : ∀ args w, (callFunc f1 args).run Tryd.prog w = .ok (.enter f1 args) w) (hf2 : ∀ args w, (callFunc f2 args).run Tryd.prog w = .ok (.enter f2 args) w) (ho1 : o1.op = .call { callee := .value (.func f1), args := #[.tmp p1, .tmp q1], argTypes := ts1 }) (ho2 : o2.op = .call { callee := .value (.func f2), args := #[.tmp p2, .tmp q2], argTypes := ts2 }) (hoa : oa.op = .alloc T) (hob : ob.op = .alloc T)
    (hp1 : a.eval (.tmp p1) = u1) (hq1 : a.eval (.tmp q1) = t1) (hp2 : a.eval (.tmp p2) = u2) (hq2 : a.eval (.tmp q2) = t2)
    (hdn : ∀ d, d = d1 ∨ d = d2 ∨ d = da ∨ d = db → d ≠ p1 ∧ d ≠ q1 ∧ d ≠ p2 ∧ d ≠ q2) (nc1c2 : i1 ≠ i2) (nc1x : i1 ≠ ia) (nc1y : i1 ≠ ib) (nc2x : i2 ≠ ia) (nc2y : i2 ≠ ib) (nxy : ia ≠ ib) (ec1c2 : d1 ≠ d2) (ec1x : d1 ≠ da) (ec1y : d1 ≠ db) (ec2x : d2 ≠ da) (ec2y : d2 ≠ db) (exy : da ≠ db)
    (rs1011 : Region.ready md ops (((listed.setIfInBounds i1 true).setIfInBounds ia true).setIfInBounds ib true) = [i2])
    (rs1110 : Region.ready md ops (((listed.setIfInBounds i1 true).setIfInBounds i2 true).setIfInBounds ia true) = [ib])
    (rs1101 : Region.ready md ops (((listed.setIfInBounds i1 true).setIfInBounds i2 true).setIfInBounds ib true) = [ia])
    (rs0011 : Region.ready md ops ((listed.setIfInBounds ia true).setIfInBounds ib true) = [i1])
    (rs1010 : Region.ready md ops ((listed.setIfInBounds i1 true).setIfInBounds ia true) = [i2, ib])
    (rs1001 : Region.ready md ops ((listed.setIfInBounds i1 true).setIfInBounds ib true) = [i2, ia])
    (rs1100 : Region.ready md ops ((listed.setIfInBounds i1 true).setIfInBounds i2 true) = [ia, ib])
    (rs0010 : Region.ready md ops (listed.setIfInBounds ia true) = [i1, ib])
    (rs0001 : Region.ready md ops (listed.setIfInBounds ib true) = [i1, ia])
    (rs1000 : Region.ready md ops (listed.setIfInBounds i1 true) = [i2, ia, ib])
    (rs0000 : Region.ready md ops listed = [i1, ia, ib])
    (hz : ∀ w, (zeroValue T).run Tryd.prog w = .ok (.agg zero) w) (hS : ∀ w', Below w.heap.size w w' → S w')
    (hc1 : ∀ w', Below w.heap.size w w' → Calls Tryd.prog f1 #[u1, t1] w' fun e w'' => ∃ v, e = .returned v ∧ R1 v ∧ Below w'.heap.size w' w'') (hc2 : ∀ w', Below w.heap.size w w' → Calls Tryd.prog f2 #[u2, t2] w' fun e w'' => ∃ v, e = .returned v ∧ R2 v ∧ Below w'.heap.size w' w'')
    (hfin : ∀ (v1 : Value) (v2 : Value) (px : Nat) (py : Nat) (w' : World), Below w.heap.size w w' → R1 v1 → R2 v2 → RowAt w' px T zero → w.heap.size ≤ px → RowAt w' py T zero → w.heap.size ≤ py → px ≠ py → wpAnyH Tryd.prog md ops Q S fuel ((((listed.setIfInBounds i1 true).setIfInBounds i2 true).setIfInBounds ia true).setIfInBounds ib true) ((((a.put (some d1) (v1)).put (some d2) (v2)).put (some da) (.pointer (some ⟨px, 0, none⟩))).put (some db) (.pointer (some ⟨py, 0, none⟩))) w') :
    wpAnyH Tryd.prog md ops Q S (fuel + 4) listed a w := by
  have s1111 : ∀ (v1 : Value) (v2 : Value) (px : Nat) (py : Nat) (w' : World), Below w.heap.size w w' → R1 v1 → R2 v2 → RowAt w' px T zero → w.heap.size ≤ px → RowAt w' py T zero → w.heap.size ≤ py → px ≠ py → wpAnyH Tryd.prog md ops Q S fuel ((((listed.setIfInBounds i1 true).setIfInBounds i2 true).setIfInBounds ia true).setIfInBounds ib true) ((((a.put (some d1) (v1)).put (some d2) (v2)).put (some da) (.pointer (some ⟨px, 0, none⟩))).put (some db) (.pointer (some ⟨py, 0, none⟩))) w' := by
    exact hfin
  have s1011 : ∀ (v1 : Value) (px : Nat) (py : Nat) (w' : World), Below w.heap.size w w' → R1 v1 → RowAt w' px T zero → w.heap.size ≤ px → RowAt w' py T zero → w.heap.size ≤ py → px ≠ py → wpAnyH Tryd.prog md ops Q S (fuel + 1) (((listed.setIfInBounds i1 true).setIfInBounds ia true).setIfInBounds ib true) (((a.put (some d1) (v1)).put (some da) (.pointer (some ⟨px, 0, none⟩))).put (some db) (.pointer (some ⟨py, 0, none⟩))) w' := by
    intro v1 px py w' hB h1 hx hxb hy hyb hne
    have hsz := hB.size
    have hxl := RowAt.lt hx
    have hyl := RowAt.lt hy
    refine wpAnyH_ready rs1011 (by simp) ?_
    refine ready_call2 i2 (some d2) hi2 (g2 _) hd2 f2 #[u2, t2] (run_call_2 hf2 ho2 (by rw [put_ne2 _ _ _ _ (hdn db (by simp)).2.2.1, put_ne2 _ _ _ _ (hdn da (by simp)).2.2.1, put_ne2 _ _ _ _ (hdn d1 (by simp)).2.2.1, hp2]) (by rw [put_ne2 _ _ _ _ (hdn db (by simp)).2.2.2, put_ne2 _ _ _ _ (hdn da (by simp)).2.2.2, put_ne2 _ _ _ _ (hdn d1 (by simp)).2.2.2, hq2])) _ (hc2 w' hB) ?_ ?_
    · rintro e w2 ⟨v, rfl, hv, hW⟩
      have hB2 := hB.trans (hW.mono hsz)
      refine ⟨v, rfl, hS _ hB2, ?_⟩
      rw [Array.setIfInBounds_comm (xs := _) true true (Ne.symm nc2y), Array.setIfInBounds_comm (xs := _) true true (Ne.symm nc2x), put_comm2 _ db d2 _ _ (Ne.symm ec2y), put_comm2 _ da d2 _ _ (Ne.symm ec2x)]
      exact s1111 v1 v px py w2 hB2 h1 hv (RowAt.below hx hW hxl) hxb (RowAt.below hy hW hyl) hyb hne
    exact AllReadyH.nil
  have s1110 : ∀ (v1 : Value) (v2 : Value) (px : Nat) (w' : World), Below w.heap.size w w' → R1 v1 → R2 v2 → RowAt w' px T zero → w.heap.size ≤ px → wpAnyH Tryd.prog md ops Q S (fuel + 1) (((listed.setIfInBounds i1 true).setIfInBounds i2 true).setIfInBounds ia true) (((a.put (some d1) (v1)).put (some d2) (v2)).put (some da) (.pointer (some ⟨px, 0, none⟩))) w' := by
    intro v1 v2 px w' hB h1 h2 hx hxb
    have hsz := hB.size
    have hxl := RowAt.lt hx
    refine wpAnyH_ready rs1110 (by simp) ?_
    refine ready_val2 ib (some db) hib (gb _) hdb (.pointer (some ⟨w'.heap.size, 0, none⟩)) (w'.alloc (.cells zero T)) (run_alloc1 hob hz) (hS _ (hB.alloc hsz _)) ?_ ?_
    · exact s1111 v1 v2 px w'.heap.size (w'.alloc (.cells zero T)) (hB.alloc hsz _) h1 h2 (RowAt.old hx _) hxb (RowAt.new w' T zero) hsz (by omega)
    exact AllReadyH.nil
  have s1101 : ∀ (v1 : Value) (v2 : Value) (py : Nat) (w' : World), Below w.heap.size w w' → R1 v1 → R2 v2 → RowAt w' py T zero → w.heap.size ≤ py → wpAnyH Tryd.prog md ops Q S (fuel + 1) (((listed.setIfInBounds i1 true).setIfInBounds i2 true).setIfInBounds ib true) (((a.put (some d1) (v1)).put (some d2) (v2)).put (some db) (.pointer (some ⟨py, 0, none⟩))) w' := by
    intro v1 v2 py w' hB h1 h2 hy hyb
    have hsz := hB.size
    have hyl := RowAt.lt hy
    refine wpAnyH_ready rs1101 (by simp) ?_
    refine ready_val2 ia (some da) hia (ga _) hda (.pointer (some ⟨w'.heap.size, 0, none⟩)) (w'.alloc (.cells zero T)) (run_alloc1 hoa hz) (hS _ (hB.alloc hsz _)) ?_ ?_
    · rw [Array.setIfInBounds_comm (xs := _) true true (Ne.symm nxy), put_comm2 _ db da _ _ (Ne.symm exy)]
      exact s1111 v1 v2 w'.heap.size py (w'.alloc (.cells zero T)) (hB.alloc hsz _) h1 h2 (RowAt.new w' T zero) hsz (RowAt.old hy _) hyb (by omega)
    exact AllReadyH.nil
  have s0011 : ∀ (px : Nat) (py : Nat) (w' : World), Below w.heap.size w w' → RowAt w' px T zero → w.heap.size ≤ px → RowAt w' py T zero → w.heap.size ≤ py → px ≠ py → wpAnyH Tryd.prog md ops Q S (fuel + 2) ((listed.setIfInBounds ia true).setIfInBounds ib true) ((a.put (some da) (.pointer (some ⟨px, 0, none⟩))).put (some db) (.pointer (some ⟨py, 0, none⟩))) w' := by
    intro px py w' hB hx hxb hy hyb hne
    have hsz := hB.size
    have hxl := RowAt.lt hx
    have hyl := RowAt.lt hy
    refine wpAnyH_ready rs0011 (by simp) ?_
    refine ready_call2 i1 (some d1) hi1 (g1 _) hd1 f1 #[u1, t1] (run_call_2 hf1 ho1 (by rw [put_ne2 _ _ _ _ (hdn db (by simp)).1, put_ne2 _ _ _ _ (hdn da (by simp)).1, hp1]) (by rw [put_ne2 _ _ _ _ (hdn db (by simp)).2.1, put_ne2 _ _ _ _ (hdn da (by simp)).2.1, hq1])) _ (hc1 w' hB) ?_ ?_
    · rintro e w2 ⟨v, rfl, hv, hW⟩
      have hB2 := hB.trans (hW.mono hsz)
      refine ⟨v, rfl, hS _ hB2, ?_⟩
      rw [Array.setIfInBounds_comm (xs := _) true true (Ne.symm nc1y), Array.setIfInBounds_comm (xs := _) true true (Ne.symm nc1x), put_comm2 _ db d1 _ _ (Ne.symm ec1y), put_comm2 _ da d1 _ _ (Ne.symm ec1x)]
      exact s1011 v px py w2 hB2 hv (RowAt.below hx hW hxl) hxb (RowAt.below hy hW hyl) hyb hne
    exact AllReadyH.nil
  have s1010 : ∀ (v1 : Value) (px : Nat) (w' : World), Below w.heap.size w w' → R1 v1 → RowAt w' px T zero → w.heap.size ≤ px → wpAnyH Tryd.prog md ops Q S (fuel + 2) ((listed.setIfInBounds i1 true).setIfInBounds ia true) ((a.put (some d1) (v1)).put (some da) (.pointer (some ⟨px, 0, none⟩))) w' := by
    intro v1 px w' hB h1 hx hxb
    have hsz := hB.size
    have hxl := RowAt.lt hx
    refine wpAnyH_ready rs1010 (by simp) ?_
    refine ready_call2 i2 (some d2) hi2 (g2 _) hd2 f2 #[u2, t2] (run_call_2 hf2 ho2 (by rw [put_ne2 _ _ _ _ (hdn da (by simp)).2.2.1, put_ne2 _ _ _ _ (hdn d1 (by simp)).2.2.1, hp2]) (by rw [put_ne2 _ _ _ _ (hdn da (by simp)).2.2.2, put_ne2 _ _ _ _ (hdn d1 (by simp)).2.2.2, hq2])) _ (hc2 w' hB) ?_ ?_
    · rintro e w2 ⟨v, rfl, hv, hW⟩
      have hB2 := hB.trans (hW.mono hsz)
      refine ⟨v, rfl, hS _ hB2, ?_⟩
      rw [Array.setIfInBounds_comm (xs := _) true true (Ne.symm nc2x), put_comm2 _ da d2 _ _ (Ne.symm ec2x)]
      exact s1110 v1 v px w2 hB2 h1 hv (RowAt.below hx hW hxl) hxb
    refine ready_val2 ib (some db) hib (gb _) hdb (.pointer (some ⟨w'.heap.size, 0, none⟩)) (w'.alloc (.cells zero T)) (run_alloc1 hob hz) (hS _ (hB.alloc hsz _)) ?_ ?_
    · exact s1011 v1 px w'.heap.size (w'.alloc (.cells zero T)) (hB.alloc hsz _) h1 (RowAt.old hx _) hxb (RowAt.new w' T zero) hsz (by omega)
    exact AllReadyH.nil
  have s1001 : ∀ (v1 : Value) (py : Nat) (w' : World), Below w.heap.size w w' → R1 v1 → RowAt w' py T zero → w.heap.size ≤ py → wpAnyH Tryd.prog md ops Q S (fuel + 2) ((listed.setIfInBounds i1 true).setIfInBounds ib true) ((a.put (some d1) (v1)).put (some db) (.pointer (some ⟨py, 0, none⟩))) w' := by
    intro v1 py w' hB h1 hy hyb
    have hsz := hB.size
    have hyl := RowAt.lt hy
    refine wpAnyH_ready rs1001 (by simp) ?_
    refine ready_call2 i2 (some d2) hi2 (g2 _) hd2 f2 #[u2, t2] (run_call_2 hf2 ho2 (by rw [put_ne2 _ _ _ _ (hdn db (by simp)).2.2.1, put_ne2 _ _ _ _ (hdn d1 (by simp)).2.2.1, hp2]) (by rw [put_ne2 _ _ _ _ (hdn db (by simp)).2.2.2, put_ne2 _ _ _ _ (hdn d1 (by simp)).2.2.2, hq2])) _ (hc2 w' hB) ?_ ?_
    · rintro e w2 ⟨v, rfl, hv, hW⟩
      have hB2 := hB.trans (hW.mono hsz)
      refine ⟨v, rfl, hS _ hB2, ?_⟩
      rw [Array.setIfInBounds_comm (xs := _) true true (Ne.symm nc2y), put_comm2 _ db d2 _ _ (Ne.symm ec2y)]
      exact s1101 v1 v py w2 hB2 h1 hv (RowAt.below hy hW hyl) hyb
    refine ready_val2 ia (some da) hia (ga _) hda (.pointer (some ⟨w'.heap.size, 0, none⟩)) (w'.alloc (.cells zero T)) (run_alloc1 hoa hz) (hS _ (hB.alloc hsz _)) ?_ ?_
    · rw [Array.setIfInBounds_comm (xs := _) true true (Ne.symm nxy), put_comm2 _ db da _ _ (Ne.symm exy)]
      exact s1011 v1 w'.heap.size py (w'.alloc (.cells zero T)) (hB.alloc hsz _) h1 (RowAt.new w' T zero) hsz (RowAt.old hy _) hyb (by omega)
    exact AllReadyH.nil
  have s1100 : ∀ (v1 : Value) (v2 : Value) (w' : World), Below w.heap.size w w' → R1 v1 → R2 v2 → wpAnyH Tryd.prog md ops Q S (fuel + 2) ((listed.setIfInBounds i1 true).setIfInBounds i2 true) ((a.put (some d1) (v1)).put (some d2) (v2)) w' := by
    intro v1 v2 w' hB h1 h2
    have hsz := hB.size
    refine wpAnyH_ready rs1100 (by simp) ?_
    refine ready_val2 ia (some da) hia (ga _) hda (.pointer (some ⟨w'.heap.size, 0, none⟩)) (w'.alloc (.cells zero T)) (run_alloc1 hoa hz) (hS _ (hB.alloc hsz _)) ?_ ?_
    · exact s1110 v1 v2 w'.heap.size (w'.alloc (.cells zero T)) (hB.alloc hsz _) h1 h2 (RowAt.new w' T zero) hsz
    refine ready_val2 ib (some db) hib (gb _) hdb (.pointer (some ⟨w'.heap.size, 0, none⟩)) (w'.alloc (.cells zero T)) (run_alloc1 hob hz) (hS _ (hB.alloc hsz _)) ?_ ?_
    · exact s1101 v1 v2 w'.heap.size (w'.alloc (.cells zero T)) (hB.alloc hsz _) h1 h2 (RowAt.new w' T zero) hsz
    exact AllReadyH.nil
  have s0010 : ∀ (px : Nat) (w' : World), Below w.heap.size w w' → RowAt w' px T zero → w.heap.size ≤ px → wpAnyH Tryd.prog md ops Q S (fuel + 3) (listed.setIfInBounds ia true) (a.put (some da) (.pointer (some ⟨px, 0, none⟩))) w' := by
    intro px w' hB hx hxb
    have hsz := hB.size
    have hxl := RowAt.lt hx
    refine wpAnyH_ready rs0010 (by simp) ?_
    refine ready_call2 i1 (some d1) hi1 (g1 _) hd1 f1 #[u1, t1] (run_call_2 hf1 ho1 (by rw [put_ne2 _ _ _ _ (hdn da (by simp)).1, hp1]) (by rw [put_ne2 _ _ _ _ (hdn da (by simp)).2.1, hq1])) _ (hc1 w' hB) ?_ ?_
    · rintro e w2 ⟨v, rfl, hv, hW⟩
      have hB2 := hB.trans (hW.mono hsz)
      refine ⟨v, rfl, hS _ hB2, ?_⟩
      rw [Array.setIfInBounds_comm (xs := _) true true (Ne.symm nc1x), put_comm2 _ da d1 _ _ (Ne.symm ec1x)]
      exact s1010 v px w2 hB2 hv (RowAt.below hx hW hxl) hxb
    refine ready_val2 ib (some db) hib (gb _) hdb (.pointer (some ⟨w'.heap.size, 0, none⟩)) (w'.alloc (.cells zero T)) (run_alloc1 hob hz) (hS _ (hB.alloc hsz _)) ?_ ?_
    · exact s0011 px w'.heap.size (w'.alloc (.cells zero T)) (hB.alloc hsz _) (RowAt.old hx _) hxb (RowAt.new w' T zero) hsz (by omega)
    exact AllReadyH.nil
  have s0001 : ∀ (py : Nat) (w' : World), Below w.heap.size w w' → RowAt w' py T zero → w.heap.size ≤ py → wpAnyH Tryd.prog md ops Q S (fuel + 3) (listed.setIfInBounds ib true) (a.put (some db) (.pointer (some ⟨py, 0, none⟩))) w' := by
    intro py w' hB hy hyb
    have hsz := hB.size
    have hyl := RowAt.lt hy
    refine wpAnyH_ready rs0001 (by simp) ?_
    refine ready_call2 i1 (some d1) hi1 (g1 _) hd1 f1 #[u1, t1] (run_call_2 hf1 ho1 (by rw [put_ne2 _ _ _ _ (hdn db (by simp)).1, hp1]) (by rw [put_ne2 _ _ _ _ (hdn db (by simp)).2.1, hq1])) _ (hc1 w' hB) ?_ ?_
    · rintro e w2 ⟨v, rfl, hv, hW⟩
      have hB2 := hB.trans (hW.mono hsz)
      refine ⟨v, rfl, hS _ hB2, ?_⟩
      rw [Array.setIfInBounds_comm (xs := _) true true (Ne.symm nc1y), put_comm2 _ db d1 _ _ (Ne.symm ec1y)]
      exact s1001 v py w2 hB2 hv (RowAt.below hy hW hyl) hyb
    refine ready_val2 ia (some da) hia (ga _) hda (.pointer (some ⟨w'.heap.size, 0, none⟩)) (w'.alloc (.cells zero T)) (run_alloc1 hoa hz) (hS _ (hB.alloc hsz _)) ?_ ?_
    · rw [Array.setIfInBounds_comm (xs := _) true true (Ne.symm nxy), put_comm2 _ db da _ _ (Ne.symm exy)]
      exact s0011 w'.heap.size py (w'.alloc (.cells zero T)) (hB.alloc hsz _) (RowAt.new w' T zero) hsz (RowAt.old hy _) hyb (by omega)
    exact AllReadyH.nil
  have s1000 : ∀ (v1 : Value) (w' : World), Below w.heap.size w w' → R1 v1 → wpAnyH Tryd.prog md ops Q S (fuel + 3) (listed.setIfInBounds i1 true) (a.put (some d1) (v1)) w' := by
    intro v1 w' hB h1
    have hsz := hB.size
    refine wpAnyH_ready rs1000 (by simp) ?_
    refine ready_call2 i2 (some d2) hi2 (g2 _) hd2 f2 #[u2, t2] (run_call_2 hf2 ho2 (by rw [put_ne2 _ _ _ _ (hdn d1 (by simp)).2.2.1, hp2]) (by rw [put_ne2 _ _ _ _ (hdn d1 (by simp)).2.2.2, hq2])) _ (hc2 w' hB) ?_ ?_
    · rintro e w2 ⟨v, rfl, hv, hW⟩
      have hB2 := hB.trans (hW.mono hsz)
      refine ⟨v, rfl, hS _ hB2, ?_⟩
      exact s1100 v1 v w2 hB2 h1 hv
    refine ready_val2 ia (some da) hia (ga _) hda (.pointer (some ⟨w'.heap.size, 0, none⟩)) (w'.alloc (.cells zero T)) (run_alloc1 hoa hz) (hS _ (hB.alloc hsz _)) ?_ ?_
    · exact s1010 v1 w'.heap.size (w'.alloc (.cells zero T)) (hB.alloc hsz _) h1 (RowAt.new w' T zero) hsz
    refine ready_val2 ib (some db) hib (gb _) hdb (.pointer (some ⟨w'.heap.size, 0, none⟩)) (w'.alloc (.cells zero T)) (run_alloc1 hob hz) (hS _ (hB.alloc hsz _)) ?_ ?_
    · exact s1001 v1 w'.heap.size (w'.alloc (.cells zero T)) (hB.alloc hsz _) h1 (RowAt.new w' T zero) hsz
    exact AllReadyH.nil
  have s0000 : ∀  (w' : World), Below w.heap.size w w' → wpAnyH Tryd.prog md ops Q S (fuel + 4) listed a w' := by
    intro  w' hB
    have hsz := hB.size
    refine wpAnyH_ready rs0000 (by simp) ?_
    refine ready_call2 i1 (some d1) hi1 (g1 _) hd1 f1 #[u1, t1] (run_call_2 hf1 ho1 (by rw [hp1]) (by rw [hq1])) _ (hc1 w' hB) ?_ ?_
    · rintro e w2 ⟨v, rfl, hv, hW⟩
      have hB2 := hB.trans (hW.mono hsz)
      refine ⟨v, rfl, hS _ hB2, ?_⟩
      exact s1000 v w2 hB2 hv
    refine ready_val2 ia (some da) hia (ga _) hda (.pointer (some ⟨w'.heap.size, 0, none⟩)) (w'.alloc (.cells zero T)) (run_alloc1 hoa hz) (hS _ (hB.alloc hsz _)) ?_ ?_
    · exact s0010 w'.heap.size (w'.alloc (.cells zero T)) (hB.alloc hsz _) (RowAt.new w' T zero) hsz
    refine ready_val2 ib (some db) hib (gb _) hdb (.pointer (some ⟨w'.heap.size, 0, none⟩)) (w'.alloc (.cells zero T)) (run_alloc1 hob hz) (hS _ (hB.alloc hsz _)) ?_ ?_
    · exact s0001 w'.heap.size (w'.alloc (.cells zero T)) (hB.alloc hsz _) (RowAt.new w' T zero) hsz
    exact AllReadyH.nil
  exact s0000 w (Below.refl _ _)
end Go.Proofs.YthbnacikomimfaaDoor

/-
  What times of impl's fractions answers, divisors being looked for ahead of multiplying: written by gen/numtimes.py.
-/
namespace Go.Proofs.YthbnacikomimfaaDoor
open Go.RowKit
set_option linter.unusedVariables false

/-- What fraction answers. -/
def FracR (g : Bool) (n m : Nat) (v : Value) : Prop := ∃ (i l : Nat) (r s : List Int), v = .agg (numC g i r l s) ∧ Rep (n / Nat.gcd n m) i r ∧ Rep (m / Nat.gcd n m) l s

end Go.Proofs.YthbnacikomimfaaDoor

/-
  A drawn region at whose end two calls, the second of the first's answer, and one new variable come up in any order (x := f(g(..), ..)): written by gen/twoone.py.
-/
namespace Go.Proofs.YthbnacikomimfaaDoor
open Go.RowKit
set_option linter.unusedVariables false

theorem put_eq2 (a : Act) (i : Nat) (v : Value) (h : i < a.tmps.size) : (a.put (some i) v).eval (.tmp i) = v := by
  simp [Act.put, Act.eval, Array.getD_eq_getD_getElem?, h]
theorem put_size2 (a : Act) (i : Nat) (v : Value) : (a.put (some i) v).tmps.size = a.tmps.size := by simp [Act.put]

set_option maxHeartbeats 1000000 in
theorem calls_two_one {ops : Array Oper} {Q : Exit → Act → World → Prop} {md : Region.Mode} {S : World → Prop} {fuel : Nat} {listed : Array Bool} {a : Act} {w : World} (i1 i2 ia : Nat) (d1 d2 da : Tmp) (o1 o2 oa : Oper) (T : TypeId) (zero : Array Value) (f1 f2 : FuncId) (p1 q1 q2 : Nat) (u1 t1 t2 : Value) {ts1 ts2 : Array TypeId} (R1 : Value → Prop) (R2 : Value → Value → Prop)
    (hi1 : ops[i1]? = some o1) (hi2 : ops[i2]? = some o2) (hia : ops[ia]? = some oa) (hd1 : o1.dst = some d1) (hd2 : o2.dst = some d2) (hda : oa.dst = some da)
    (g1 : ∀ ts, Region.wanted o1 ts = true) (g2 : ∀ ts, Region.wanted o2 ts = true) (ga : ∀ ts, Region.wanted oa ts = true)
    (hf1 : ∀ args w, (callFunc f1 args).run Tryd.prog w = .ok (.enter f1 args) w) (hf2 : ∀ args w, (callFunc f2 args).run Tryd.prog w = .ok (.enter f2 args) w) (ho1 : o1.op = .call { callee := .value (.func f1), args := #[.tmp p1, .tmp q1], argTypes := ts1 }) (ho2 : o2.op = .call { callee := .value (.func f2), args := #[.tmp d1, .tmp q2], argTypes := ts2 }) (hoa : oa.op = .alloc T)
    (hp1 : a.eval (.tmp p1) = u1) (hq1 : a.eval (.tmp q1) = t1) (hq2 : a.eval (.tmp q2) = t2) (hsz : d1 < a.tmps.size)
    (hdn : ∀ d, d = d1 ∨ d = d2 ∨ d = da → d ≠ p1 ∧ d ≠ q1 ∧ d ≠ q2) (nc1c2 : i1 ≠ i2) (nc1x : i1 ≠ ia) (nc2x : i2 ≠ ia) (ec1c2 : d1 ≠ d2) (ec1x : d1 ≠ da) (ec2x : d2 ≠ da)
    (rs101 : Region.ready md ops ((listed.setIfInBounds i1 true).setIfInBounds ia true) = [i2])
    (rs110 : Region.ready md ops ((listed.setIfInBounds i1 true).setIfInBounds i2 true) = [ia])
    (rs001 : Region.ready md ops (listed.setIfInBounds ia true) = [i1])
    (rs100 : Region.ready md ops (listed.setIfInBounds i1 true) = [i2, ia])
    (rs000 : Region.ready md ops listed = [i1, ia])
    (hz : ∀ w, (zeroValue T).run Tryd.prog w = .ok (.agg zero) w) (hS : ∀ w', Below w.heap.size w w' → S w')
    (hc1 : ∀ w', Below w.heap.size w w' → Calls Tryd.prog f1 #[u1, t1] w' fun e w'' => ∃ v, e = .returned v ∧ R1 v ∧ Below w'.heap.size w' w'') (hc2 : ∀ v1 w', R1 v1 → Below w.heap.size w w' → Calls Tryd.prog f2 #[v1, t2] w' fun e w'' => ∃ v, e = .returned v ∧ R2 v1 v ∧ Below w'.heap.size w' w'')
    (hfin : ∀ (v1 : Value) (v2 : Value) (px : Nat) (w' : World), Below w.heap.size w w' → R1 v1 → R2 v1 v2 → RowAt w' px T zero → w.heap.size ≤ px → wpAnyH Tryd.prog md ops Q S fuel (((listed.setIfInBounds i1 true).setIfInBounds i2 true).setIfInBounds ia true) (((a.put (some d1) (v1)).put (some d2) (v2)).put (some da) (.pointer (some ⟨px, 0, none⟩))) w') :
    wpAnyH Tryd.prog md ops Q S (fuel + 3) listed a w := by
  have s111 : ∀ (v1 : Value) (v2 : Value) (px : Nat) (w' : World), Below w.heap.size w w' → R1 v1 → R2 v1 v2 → RowAt w' px T zero → w.heap.size ≤ px → wpAnyH Tryd.prog md ops Q S fuel (((listed.setIfInBounds i1 true).setIfInBounds i2 true).setIfInBounds ia true) (((a.put (some d1) (v1)).put (some d2) (v2)).put (some da) (.pointer (some ⟨px, 0, none⟩))) w' := by
    exact hfin
  have s101 : ∀ (v1 : Value) (px : Nat) (w' : World), Below w.heap.size w w' → R1 v1 → RowAt w' px T zero → w.heap.size ≤ px → wpAnyH Tryd.prog md ops Q S (fuel + 1) ((listed.setIfInBounds i1 true).setIfInBounds ia true) ((a.put (some d1) (v1)).put (some da) (.pointer (some ⟨px, 0, none⟩))) w' := by
    intro v1 px w' hB h1 hx hxb
    have hws := hB.size
    have hxl := RowAt.lt hx
    refine wpAnyH_ready rs101 (by simp) ?_
    refine ready_call2 i2 (some d2) hi2 (g2 _) hd2 f2 #[v1, t2] (run_call_2 hf2 ho2 (by rw [put_ne2 _ _ _ _ (Ne.symm ec1x), put_eq2 _ _ _ hsz]) (by rw [put_ne2 _ _ _ _ (hdn da (by simp)).2.2, put_ne2 _ _ _ _ (hdn d1 (by simp)).2.2, hq2])) _ (hc2 v1 w' h1 hB) ?_ ?_
    · rintro e w2 ⟨v, rfl, hv, hW⟩
      have hB2 := hB.trans (hW.mono hws)
      refine ⟨v, rfl, hS _ hB2, ?_⟩
      rw [Array.setIfInBounds_comm (xs := _) true true (Ne.symm nc2x), put_comm2 _ da d2 _ _ (Ne.symm ec2x)]
      exact s111 v1 v px w2 hB2 h1 hv (RowAt.below hx hW hxl) hxb
    exact AllReadyH.nil
  have s110 : ∀ (v1 : Value) (v2 : Value) (w' : World), Below w.heap.size w w' → R1 v1 → R2 v1 v2 → wpAnyH Tryd.prog md ops Q S (fuel + 1) ((listed.setIfInBounds i1 true).setIfInBounds i2 true) ((a.put (some d1) (v1)).put (some d2) (v2)) w' := by
    intro v1 v2 w' hB h1 h2
    have hws := hB.size
    refine wpAnyH_ready rs110 (by simp) ?_
    refine ready_val2 ia (some da) hia (ga _) hda (.pointer (some ⟨w'.heap.size, 0, none⟩)) (w'.alloc (.cells zero T)) (run_alloc1 hoa hz) (hS _ (hB.alloc hws _)) ?_ ?_
    · exact s111 v1 v2 w'.heap.size (w'.alloc (.cells zero T)) (hB.alloc hws _) h1 h2 (RowAt.new w' T zero) hws
    exact AllReadyH.nil
  have s001 : ∀ (px : Nat) (w' : World), Below w.heap.size w w' → RowAt w' px T zero → w.heap.size ≤ px → wpAnyH Tryd.prog md ops Q S (fuel + 2) (listed.setIfInBounds ia true) (a.put (some da) (.pointer (some ⟨px, 0, none⟩))) w' := by
    intro px w' hB hx hxb
    have hws := hB.size
    have hxl := RowAt.lt hx
    refine wpAnyH_ready rs001 (by simp) ?_
    refine ready_call2 i1 (some d1) hi1 (g1 _) hd1 f1 #[u1, t1] (run_call_2 hf1 ho1 (by rw [put_ne2 _ _ _ _ (hdn da (by simp)).1, hp1]) (by rw [put_ne2 _ _ _ _ (hdn da (by simp)).2.1, hq1])) _ (hc1 w' hB) ?_ ?_
    · rintro e w2 ⟨v, rfl, hv, hW⟩
      have hB2 := hB.trans (hW.mono hws)
      refine ⟨v, rfl, hS _ hB2, ?_⟩
      rw [Array.setIfInBounds_comm (xs := _) true true (Ne.symm nc1x), put_comm2 _ da d1 _ _ (Ne.symm ec1x)]
      exact s101 v px w2 hB2 hv (RowAt.below hx hW hxl) hxb
    exact AllReadyH.nil
  have s100 : ∀ (v1 : Value) (w' : World), Below w.heap.size w w' → R1 v1 → wpAnyH Tryd.prog md ops Q S (fuel + 2) (listed.setIfInBounds i1 true) (a.put (some d1) (v1)) w' := by
    intro v1 w' hB h1
    have hws := hB.size
    refine wpAnyH_ready rs100 (by simp) ?_
    refine ready_call2 i2 (some d2) hi2 (g2 _) hd2 f2 #[v1, t2] (run_call_2 hf2 ho2 (by rw [put_eq2 _ _ _ hsz]) (by rw [put_ne2 _ _ _ _ (hdn d1 (by simp)).2.2, hq2])) _ (hc2 v1 w' h1 hB) ?_ ?_
    · rintro e w2 ⟨v, rfl, hv, hW⟩
      have hB2 := hB.trans (hW.mono hws)
      refine ⟨v, rfl, hS _ hB2, ?_⟩
      exact s110 v1 v w2 hB2 h1 hv
    refine ready_val2 ia (some da) hia (ga _) hda (.pointer (some ⟨w'.heap.size, 0, none⟩)) (w'.alloc (.cells zero T)) (run_alloc1 hoa hz) (hS _ (hB.alloc hws _)) ?_ ?_
    · exact s101 v1 w'.heap.size (w'.alloc (.cells zero T)) (hB.alloc hws _) h1 (RowAt.new w' T zero) hws
    exact AllReadyH.nil
  have s000 : ∀  (w' : World), Below w.heap.size w w' → wpAnyH Tryd.prog md ops Q S (fuel + 3) listed a w' := by
    intro  w' hB
    have hws := hB.size
    refine wpAnyH_ready rs000 (by simp) ?_
    refine ready_call2 i1 (some d1) hi1 (g1 _) hd1 f1 #[u1, t1] (run_call_2 hf1 ho1 (by rw [hp1]) (by rw [hq1])) _ (hc1 w' hB) ?_ ?_
    · rintro e w2 ⟨v, rfl, hv, hW⟩
      have hB2 := hB.trans (hW.mono hws)
      refine ⟨v, rfl, hS _ hB2, ?_⟩
      exact s100 v w2 hB2 hv
    refine ready_val2 ia (some da) hia (ga _) hda (.pointer (some ⟨w'.heap.size, 0, none⟩)) (w'.alloc (.cells zero T)) (run_alloc1 hoa hz) (hS _ (hB.alloc hws _)) ?_ ?_
    · exact s001 w'.heap.size (w'.alloc (.cells zero T)) (hB.alloc hws _) (RowAt.new w' T zero) hws
    exact AllReadyH.nil
  exact s000 w (Below.refl _ _)
end Go.Proofs.YthbnacikomimfaaDoor

/-
  What sumTop of impl's fractions answers: the top of a sum over the product of both bottoms; by complex numbers where both are small.
-/
namespace Go.Proofs.YthbnacikomimfaaDoor
open Go.RowKit
set_option linter.unusedVariables false

theorem Rep.used_le {N i : Nat} {r : List Int} (h : Rep N i r) (K : Nat) (hN : N < 1000000 ^ K) : i ≤ K := by
  by_cases hi : i ≤ K
  · exact hi
  · have h1 := h.geN (by omega)
    have h2 : 1000000 ^ K ≤ 1000000 ^ (i - 1) := Nat.pow_le_pow_right (by decide) (by omega)
    omega
theorem topZ_used {g : Bool} {n m : Nat} {g' : Bool} {n' m' k j k' j' i : Nat} {p q p' q' r : List Int} (hP : Rep n k p) (hQ : Rep m j q) (hP' : Rep n' k' p') (hQ' : Rep m' j' q') (hk : k ≤ 100) (hj : j ≤ 100) (hk' : k' ≤ 100) (hj' : j' ≤ 100) (hR : Rep (topZ g n m g' n' m').natAbs i r) : i ≤ 201 := by
  have up : ∀ {x y : Nat} {l : List Int}, Rep x y l → y ≤ 100 → x < 1000000 ^ 100 := fun h hy => Nat.lt_of_lt_of_le h.ltN (Nat.pow_le_pow_right (by decide) hy)
  have h1 := Nat.mul_lt_mul'' (up hP hk) (up hQ' hj')
  have h2 := Nat.mul_lt_mul'' (up hP' hk') (up hQ hj)
  have h3 := topZ_abs g n m g' n' m'
  apply hR.used_le
  rw [show 201 = 100 + 100 + 1 by rfl, Nat.pow_succ, Nat.pow_add]
  generalize 1000000 ^ 100 * 1000000 ^ 100 = X at h1 h2 ⊢
  omega

theorem cmul_small {x y x' y' : Nat} {a b c d : Int} (h1 : F64 x a) (h2 : F64 y b) (h3 : F64 x' c) (h4 : F64 y' d) (ha : a.natAbs < 1000000) (hb : b.natAbs < 1000000) (hc : c.natAbs < 1000000) (hd : d.natAbs < 1000000) : ∃ re im, cMulBits x y x' y' = some (re, im) ∧ F64 im (b * c + d * a) ∧ (b * c + d * a).natAbs < 2000000000000 := by
  have key : ∀ {u v : Int}, u.natAbs < 1000000 → v.natAbs < 1000000 → (u * v).natAbs < 1000000000000 := fun {u v} hu hv => by
    rw [Int.natAbs_mul]; exact Nat.mul_lt_mul'' hu hv
  have k1 := key ha hc
  have k2 := key hb hd
  have k3 := key ha hd
  have k4 := key hb hc
  obtain ⟨ac, e1, f1⟩ := F64.mul h1 h3 (by omega)
  obtain ⟨bd, e2, f2⟩ := F64.mul h2 h4 (by omega)
  obtain ⟨re, e3, f3⟩ := F64.sub f1 f2 (by omega)
  obtain ⟨ad, e4, f4⟩ := F64.mul h1 h4 (by omega)
  obtain ⟨bc, e5, f5⟩ := F64.mul h2 h3 (by omega)
  obtain ⟨im, e6, f6⟩ := F64.add f4 f5 (by omega)
  have hz : a * d + b * c = b * c + d * a := by rw [Int.mul_comm a d]; omega
  refine ⟨re, im, ?_, by rw [← hz]; exact f6, by rw [← hz]; omega⟩
  have g1 : floatBits .mul .f64 x x' = some ac := e1
  have g2 : floatBits .mul .f64 y y' = some bd := e2
  have g3 : floatBits .sub .f64 ac bd = some re := e3
  have g4 : floatBits .mul .f64 x y' = some ad := e4
  have g5 : floatBits .mul .f64 y x' = some bc := e5
  have g6 : floatBits .add .f64 ad bc = some im := e6
  unfold cMulBits
  simp [g1, g2, g3, g4, g5, g6]

end Go.Proofs.YthbnacikomimfaaDoor

/-
  What plus, minus and over of impl's fractions answer: written by gen/mulnum.py.
-/
namespace Go.Proofs.YthbnacikomimfaaDoor
open Go.RowKit
set_option linter.unusedVariables false

theorem okN_gcd {l : List UInt8} (h : okN l = true) : Nat.gcd (topN l) (botN l) = 1 := by
  rw [okN_eq] at h
  simp only [Bool.and_eq_true, Bool.or_eq_true, decide_eq_true_eq] at h
  rcases h.2 with h | h
  · rw [h, Nat.gcd_one_right]
  · exact h
theorem sg_sign (b : Bool) (x : Nat) : sg b x = (if b then (-1 : Int) else 1) * (x : Int) := by
  cases b <;> simp [sg]
/-- The top of a sum over the bottoms' common divisor. -/
def topC (g : Bool) (n m : Nat) (g' : Bool) (n' m' : Nat) : Int := topZ g n (m / Nat.gcd m m') g' n' (m' / Nat.gcd m m')
theorem plus_top {g : Bool} {n m : Nat} {g' : Bool} {n' m' : Nat} (hg : Nat.gcd n m = 1) (hg' : Nat.gcd n' m' = 1) (hm : 0 < m) (hm' : 0 < m') :
    decide (topZ g n m g' n' m' < 0) = decide (topC g n m g' n' m' < 0) ∧
    (topZ g n m g' n' m').natAbs / Nat.gcd (topZ g n m g' n' m').natAbs (m * m') = (topC g n m g' n' m').natAbs / Nat.gcd (topC g n m g' n' m').natAbs (Nat.gcd m m') ∧
    m * m' / Nat.gcd (topZ g n m g' n' m').natAbs (m * m') = Nat.gcd m m' / Nat.gcd (topC g n m g' n' m').natAbs (Nat.gcd m m') * (m / Nat.gcd m m') * (m' / Nat.gcd m m') := by
  obtain ⟨e1, e2, e3, e4⟩ := plus_gcd hg hg' hm hm' (if g then -1 else 1) (if g' then -1 else 1) (by cases g <;> simp) (by cases g' <;> simp) (topC g n m g' n' m') (by unfold topC topZ; rw [sg_sign, sg_sign])
  have hc : 0 < Nat.gcd m m' := Nat.gcd_pos_of_pos_right m hm'
  have hT : topZ g n m g' n' m' = (Nat.gcd m m' : Int) * topC g n m g' n' m' := by rw [← e1]; unfold topZ; rw [sg_sign, sg_sign]
  have hA : (topZ g n m g' n' m').natAbs = Nat.gcd m m' * (topC g n m g' n' m').natAbs := by rw [hT, Int.natAbs_mul, Int.natAbs_natCast]
  refine ⟨?_, ?_, ?_⟩
  · rw [hT]
    by_cases h : topC g n m g' n' m' < 0
    · rw [decide_eq_true h, decide_eq_true (Int.mul_neg_of_pos_of_neg (by omega) h)]
    · rw [decide_eq_false h, decide_eq_false (Int.not_lt.2 (Int.mul_nonneg (by omega) (by omega)))]
  · rw [hA, e2, e3]
  · rw [hA, e2, e4]

/-- What plus answers. -/
def PlusR (g : Bool) (n m : Nat) (g' : Bool) (n' m' : Nat) (e : Ending) : Prop := ∃ (i l : Nat) (r s : List Int), e = .returned (.agg (numC (decide (topZ g n m g' n' m' < 0)) i r l s)) ∧ Rep ((topZ g n m g' n' m').natAbs / Nat.gcd (topZ g n m g' n' m').natAbs (m * m')) i r ∧ Rep (m * m' / Nat.gcd (topZ g n m g' n' m').natAbs (m * m')) l s
def SumR (Z : Int) (v : Value) : Prop := ∃ (c : Nat) (t : List Int), v = .agg (wholeC (decide (Z < 0)) c t) ∧ Rep Z.natAbs c t ∧ c ≤ 202

end Go.Proofs.YthbnacikomimfaaDoor

/-
  The texts ImplMulNum, ImplDivNum, NumPlus, ImplSubNum, one behind the other.
-/

/-
  What MulNum and DivNum should answer, and what impl.MulNum and impl.DivNum answer.
-/
namespace Go.Proofs.YthbnacikomimfaaDoor
open Go.RowKit
set_option linter.unusedVariables false

/-- Top and bottom of the product, of the quotient where d says so. -/
def mulTop (d : Bool) (a b : ByteArray) : Nat := topN a.data.toList * (if d then botN b.data.toList else topN b.data.toList)
def mulBot (d : Bool) (a b : ByteArray) : Nat := botN a.data.toList * (if d then topN b.data.toList else botN b.data.toList)
def mulOk (d : Bool) (a b : ByteArray) : Bool := (okN a.data.toList && okN b.data.toList) && !(d && decide (topN b.data.toList = 0))
def MulNAns (d : Bool) (a b : ByteArray) (e : Ending) : Prop :=
  (mulOk d a b = true ∧ TellsN ((negN a.data.toList != negN b.data.toList) && decide (mulTop d a b ≠ 0)) (mulTop d a b / Nat.gcd (mulTop d a b) (mulBot d a b)) (mulBot d a b / Nat.gcd (mulTop d a b) (mulBot d a b)) e) ∨ (mulOk d a b = false ∧ Mute e)
theorem MulNAns.same {d : Bool} {a b : ByteArray} {e e' : Ending} (h : MulNAns d a b e) (h' : MulNAns d a b e') : ∃ (s : ByteArray) (o : Bool), e = .returned (.tuple #[.string s, .bool o]) ∧ e' = .returned (.tuple #[.string s, .bool o]) := by
  rcases h with ⟨g1, h⟩ | ⟨g1, h⟩ <;> rcases h' with ⟨g2, h'⟩ | ⟨g2, h'⟩
  · exact h.same h'
  · rw [g1] at g2; cases g2
  · rw [g1] at g2; cases g2
  · exact h.same h'
theorem TellsN.form {g : Bool} {n m : Nat} {e : Ending} (h : TellsN g n m e) : ∃ (s : ByteArray) (o : Bool), e = .returned (.tuple #[.string s, .bool o]) := by
  obtain ⟨s, rfl, _, _⟩ := h
  exact ⟨s, _, rfl⟩

end Go.Proofs.YthbnacikomimfaaDoor

/-
  What impl.DivNum answers.
-/
namespace Go.Proofs.YthbnacikomimfaaDoor
open Go.RowKit
set_option linter.unusedVariables false

theorem load_whole_w {ops : Array Oper} {rest : List Oper} {o : Oper} {a : Act} {w : World} {Q : Exit → Act → World → Prop} (hw : Region.wanted o (yielded ops a.tmps) = true) (x : Operand) (ho : o.op = .load 69 x)
    (b off : Nat) (hx : a.eval x = .pointer (some ⟨b, off, none⟩)) (g : Bool) (u : Int) (p : List Int) (hr : w.rangeAt b off (Value.bool g :: natL u p)) (hl : p.length = 204)
    (h : wpList Tryd.prog ops Q rest (a.put o.dst (.agg (wholeC g u p))) w) : wpList Tryd.prog ops Q (o :: rest) a w :=
  wpList_step fun K hK => by rw [if_pos hw]; exact wp_load_mid 69 x ho b off hx (Value.bool g :: natL u p) _ hr Tryd.underlying69 rfl (by rw [whole_info g u p hl]; simp [wholeC]) (hK _ _ h)

theorem sgn_zero {g : Bool} {k : Nat} : (sgn g k == 0) = decide (k = 0) := by
  unfold sgn
  by_cases h : k = 0
  · rw [if_pos h, decide_eq_true h]; rfl
  · rw [if_neg h, decide_eq_false h]; cases g <;> rfl

end Go.Proofs.YthbnacikomimfaaDoor

/-
  What AddNum and SubNum should answer, and what impl.AddNum answers.
-/
namespace Go.Proofs.YthbnacikomimfaaDoor
open Go.RowKit
set_option linter.unusedVariables false

def AddNAns (less : Bool) (a b : ByteArray) (e : Ending) : Prop :=
  ((okN a.data.toList && okN b.data.toList) = true ∧ TellsN (decide (addZ less a b < 0)) ((addZ less a b).natAbs / Nat.gcd (addZ less a b).natAbs (addBot a b)) (addBot a b / Nat.gcd (addZ less a b).natAbs (addBot a b)) e) ∨ ((okN a.data.toList && okN b.data.toList) = false ∧ Mute e)
theorem AddNAns.same {d : Bool} {a b : ByteArray} {e e' : Ending} (h : AddNAns d a b e) (h' : AddNAns d a b e') : ∃ (s : ByteArray) (o : Bool), e = .returned (.tuple #[.string s, .bool o]) ∧ e' = .returned (.tuple #[.string s, .bool o]) := by
  rcases h with ⟨g1, h⟩ | ⟨g1, h⟩ <;> rcases h' with ⟨g2, h'⟩ | ⟨g2, h'⟩
  · exact h.same h'
  · rw [g1] at g2; cases g2
  · rw [g1] at g2; cases g2
  · exact h.same h'
end Go.Proofs.YthbnacikomimfaaDoor

/-
  What impl.SubNum answers.
-/
namespace Go.Proofs.YthbnacikomimfaaDoor
open Go.RowKit
set_option linter.unusedVariables false

end Go.Proofs.YthbnacikomimfaaDoor

/-
  Bezout's steps: plain facts; and the texts of whole numbers.
-/
namespace Go.Proofs.YthbnacikomimfaaDoor
set_option linter.unusedVariables false

/-- Bezout's steps. -/
def bz (r' : Nat) (r : Nat) (x y x' y' : Int) : Nat × Int × Int :=
  if h : r' = 0 then (r, x, y) else bz (r % r') r' x' y' (x - ((r / r' : Nat) : Int) * x') (y - ((r / r' : Nat) : Int) * y')
termination_by r'
decreasing_by exact Nat.mod_lt _ (Nat.pos_of_ne_zero h)
theorem bz_end (r : Nat) (x y x' y' : Int) : bz 0 r x y x' y' = (r, x, y) := by rw [bz, dif_pos rfl]
theorem bz_step {r' : Nat} (h : r' ≠ 0) (r : Nat) (x y x' y' : Int) : bz r' r x y x' y' = bz (r % r') r' x' y' (x - ((r / r' : Nat) : Int) * x') (y - ((r / r' : Nat) : Int) * y') := by
  rw [bz, dif_neg h]
/-- One column's bound: their signs are unlike, and they make b across. -/
def Col (b : Int) (r r' : Nat) (x x' : Int) : Prop := (0 ≤ x ∧ x' ≤ 0 ∧ (r' : Int) * x - (r : Int) * x' = b) ∨ (x ≤ 0 ∧ 0 ≤ x' ∧ (r : Int) * x' - (r' : Int) * x = b)
theorem Col.step {b : Int} {r r' : Nat} {x x' : Int} (h : Col b r r' x x') : Col b r' (r % r') x' (x - ((r / r' : Nat) : Int) * x') := by
  unfold Col at h ⊢
  have e : (r : Int) = (r' : Int) * ((r / r' : Nat) : Int) + ((r % r' : Nat) : Int) := by exact_mod_cast (Nat.div_add_mod r r').symm
  have hq : (0 : Int) ≤ ((r / r' : Nat) : Int) := Int.natCast_nonneg _
  generalize ((r / r' : Nat) : Int) = q at *
  generalize ((r % r' : Nat) : Int) = s at *
  generalize (r : Int) = R at *
  generalize (r' : Int) = R' at *
  rcases h with ⟨h1, h2, h3⟩ | ⟨h1, h2, h3⟩
  · have h4 : 0 ≤ q * -x' := Int.mul_nonneg hq (by omega)
    have h5 : q * -x' = -(q * x') := by grind
    exact .inr ⟨h2, by omega, by grind⟩
  · have h4 : 0 ≤ q * x' := Int.mul_nonneg hq h2
    exact .inl ⟨h2, by omega, by grind⟩
theorem Col.bound {b : Int} {r r' : Nat} {x x' : Int} (h : Col b r r' x x') (hr : 0 < r') : (x - ((r / r' : Nat) : Int) * x').natAbs ≤ b.natAbs ∧ (((r / r' : Nat) : Int) * x').natAbs ≤ b.natAbs := by
  unfold Col at h
  have e : (r : Int) = (r' : Int) * ((r / r' : Nat) : Int) + ((r % r' : Nat) : Int) := by exact_mod_cast (Nat.div_add_mod r r').symm
  have hq : (0 : Int) ≤ ((r / r' : Nat) : Int) := Int.natCast_nonneg _
  have hs : (0 : Int) ≤ ((r % r' : Nat) : Int) := Int.natCast_nonneg _
  have hr1 : (1 : Int) ≤ (r' : Int) := by omega
  generalize ((r / r' : Nat) : Int) = q at *
  generalize ((r % r' : Nat) : Int) = s at *
  generalize (r : Int) = R at *
  generalize (r' : Int) = R' at *
  obtain ⟨p, hp⟩ : ∃ p, p = q * x' := ⟨_, rfl⟩
  rw [← hp]
  rcases h with ⟨h1, h2, h3⟩ | ⟨h1, h2, h3⟩
  · have h4 : 0 ≤ q * -x' := Int.mul_nonneg hq (by omega)
    have h5 : q * -x' = -(q * x') := by grind
    have h6 : 0 ≤ s * -x' := Int.mul_nonneg hs (by omega)
    have h7 : 0 ≤ (R' - 1) * (x - p) := Int.mul_nonneg (by omega) (by omega)
    have h8 : b = R' * (x - p) + s * -x' := by rw [← h3, e, hp]; grind
    have h9 : (R' - 1) * (x - p) = R' * (x - p) - (x - p) := by grind
    omega
  · have h4 : 0 ≤ q * x' := Int.mul_nonneg hq h2
    have h6 : 0 ≤ s * x' := Int.mul_nonneg hs h2
    have h7 : 0 ≤ (R' - 1) * (p - x) := Int.mul_nonneg (by omega) (by omega)
    have h8 : b = R' * (p - x) + s * x' := by rw [← h3, e, hp]; grind
    have h9 : (R' - 1) * (p - x) = R' * (p - x) - (p - x) := by grind
    omega
theorem Col.start_x (a b : Nat) : Col (b : Int) a b 1 0 := .inl ⟨by omega, by omega, by simp⟩
theorem Col.start_y (a b : Nat) : Col (a : Int) a b 0 1 := .inr ⟨by omega, by omega, by simp⟩

/-- s is the text of the whole number z. -/
def WT (s : ByteArray) (z : Int) : Prop := z.natAbs < 10 ^ 600 ∧ s.data.toList = (if z < 0 then [45] else []) ++ Lib.decDigits z.natAbs
theorem WT.inj {s t : ByteArray} {z : Int} (h : WT s z) (g : WT t z) : s = t := Go.WideShapes.bytes_inj (h.2.trans g.2.symm)
theorem no_cut {l : List UInt8} (h : l.all isDig = true) : cut47 l = (l, [], false) := by
  refine cut47_none l (fun k hk => ?_)
  have := List.all_eq_true.1 h 47 (List.mem_of_getElem? hk)
  revert this; decide
theorem dig_head {l : List UInt8} (h : canonB l = true) : (l.head? == some 45) = false := by
  cases l with
  | nil => simp [canonB] at h
  | cons c m =>
    have hc := (canon_cons h).1
    have : c ≠ 45 := by intro e; subst e; revert hc; decide
    simp [this]
theorem WT.parts {s : ByteArray} {z : Int} (h : WT s z) : negN s.data.toList = decide (z < 0) ∧ topN s.data.toList = z.natAbs ∧ botN s.data.toList = 1 ∧ okN s.data.toList = true := by
  obtain ⟨hc, hv⟩ := dec_canon z.natAbs
  have hneg : negN s.data.toList = decide (z < 0) := by
    rw [h.2]
    by_cases hz : z < 0
    · rw [if_pos hz, decide_eq_true hz]; rfl
    · rw [if_neg hz, decide_eq_false hz, List.nil_append]; exact dig_head hc
  have hbody : bodyN s.data.toList = Lib.decDigits z.natAbs := by
    unfold bodyN
    rw [hneg]
    by_cases hz : z < 0
    · rw [decide_eq_true hz, if_pos rfl, h.2, if_pos hz]; rfl
    · rw [decide_eq_false hz, if_neg (by decide), h.2, if_neg hz, List.nil_append]
  have hcut := no_cut (canon_all hc)
  have hover : overN s.data.toList = Lib.decDigits z.natAbs := by unfold overN; rw [hbody, hcut]
  have hbr : brokenN s.data.toList = false := by unfold brokenN; rw [hbody, hcut]
  refine ⟨hneg, by unfold topN; rw [hover, hv], by unfold botN; rw [hbr]; rfl, ?_⟩
  unfold okN
  rw [hover, hneg, hbr, hv]
  have hg : goodB (Lib.decDigits z.natAbs) = true := by
    unfold goodB
    rw [hc, decide_eq_true ((canon_len_le hc 600 (by omega)).2 (by rw [hv]; exact h.1))]; rfl
  rw [hg]
  by_cases hz : z < 0
  · rw [decide_eq_true hz, decide_eq_false (show ¬ z.natAbs = 0 by omega)]; rfl
  · rw [decide_eq_false hz]; rfl
theorem WT.of_num {s : ByteArray} {z : Int} {g : Bool} {n : Nat} (hz : z.natAbs < 10 ^ 600) (hn : n = z.natAbs) (hg : g = decide (z < 0)) (h : NumR 10 g n 1 s) : WT s z := by
  obtain ⟨t, u, h1, h2, h3⟩ := h
  subst hn hg
  refine ⟨hz, ?_⟩
  obtain ⟨hc, hv⟩ := dec_canon z.natAbs
  have e : t = ⟨(Lib.decDigits z.natAbs).toArray⟩ := h1.inj (InRad.dec (s := ⟨(Lib.decDigits z.natAbs).toArray⟩) hc hv)
  rw [h3, e, if_pos rfl, List.append_nil]
  by_cases h0 : z < 0
  · rw [if_pos h0, decide_eq_true h0]; rfl
  · rw [if_neg h0, decide_eq_false h0]; rfl
theorem one_lt_p (k : Nat) (hk : k ≠ 0) : 1 < 10 ^ k := Nat.one_lt_pow hk (by decide)
theorem one_lt_600 : (1 : Nat) < 10 ^ 600 := one_lt_p 600 (by decide)
theorem mulW {a b : ByteArray} {x y : Int} {e : Ending} (ha : WT a x) (hb : WT b y) (hlt : (x * y).natAbs < 10 ^ 600) (h : MulNAns false a b e) : ∃ s : ByteArray, e = .returned (.tuple #[.string s, .bool true]) ∧ WT s (x * y) := by
  obtain ⟨an, at', ab, ao⟩ := ha.parts
  obtain ⟨bn, bt, bb, bo⟩ := hb.parts
  have hT : mulTop false a b = (x * y).natAbs := by unfold mulTop; simp only [Bool.false_eq_true, if_false]; rw [at', bt, Int.natAbs_mul]
  have hB : mulBot false a b = 1 := by unfold mulBot; simp only [Bool.false_eq_true, if_false]; rw [ab, bb]
  have hok : mulOk false a b = true := by unfold mulOk; rw [ao, bo]; rfl
  rcases h with ⟨_, s, rfl, h1, _⟩ | ⟨h, _⟩
  · rw [hT, hB, Nat.gcd_one_right, Nat.div_one, Nat.div_one] at *
    have hd : (decide ((x * y).natAbs < 10 ^ 600) && decide (1 < 10 ^ 600)) = true := by rw [decide_eq_true hlt, decide_eq_true one_lt_600]; rfl
    rw [hd] at h1 ⊢
    refine ⟨s, rfl, WT.of_num hlt rfl ?_ (h1 rfl)⟩
    rw [an, bn]
    rcases Int.lt_trichotomy x 0 with hx | hx | hx
    · rcases Int.lt_trichotomy y 0 with hy | hy | hy
      · have := Int.mul_pos_of_neg_of_neg hx hy
        rw [decide_eq_true hx, decide_eq_true hy, decide_eq_false (show ¬ x * y < 0 by omega)]; rfl
      · subst hy; simp
      · have := Int.mul_neg_of_neg_of_pos hx hy
        rw [decide_eq_true hx, decide_eq_false (show ¬ y < 0 by omega), decide_eq_true this, decide_eq_true (show (x * y).natAbs ≠ 0 by omega)]; rfl
    · subst hx; simp
    · rcases Int.lt_trichotomy y 0 with hy | hy | hy
      · have := Int.mul_neg_of_pos_of_neg hx hy
        rw [decide_eq_false (show ¬ x < 0 by omega), decide_eq_true hy, decide_eq_true this, decide_eq_true (show (x * y).natAbs ≠ 0 by omega)]; rfl
      · subst hy; simp
      · have := Int.mul_pos hx hy
        rw [decide_eq_false (show ¬ x < 0 by omega), decide_eq_false (show ¬ y < 0 by omega), decide_eq_false (show ¬ x * y < 0 by omega)]; rfl
  · rw [hok] at h; cases h
theorem sg_abs_of (x : Int) : sg (decide (x < 0)) x.natAbs = x := by
  unfold sg
  by_cases h : x < 0
  · rw [decide_eq_true h]; simp; omega
  · rw [decide_eq_false h]; simp; omega
theorem sg_less (g : Bool) (n : Nat) : sg (g != true) n = - sg g n := by unfold sg; cases g <;> simp
theorem subW {a b : ByteArray} {x y : Int} {e : Ending} (ha : WT a x) (hb : WT b y) (hlt : (x - y).natAbs < 10 ^ 600) (h : AddNAns true a b e) : ∃ s : ByteArray, e = .returned (.tuple #[.string s, .bool true]) ∧ WT s (x - y) := by
  obtain ⟨an, at', ab, ao⟩ := ha.parts
  obtain ⟨bn, bt, bb, bo⟩ := hb.parts
  have hT : addZ true a b = x - y := by
    unfold addZ topZ
    rw [an, at', ab, bn, bt, bb, sg_less, sg_abs_of, sg_abs_of]; simp; omega
  have hB : addBot a b = 1 := by unfold addBot; rw [ab, bb]
  rcases h with ⟨_, s, rfl, h1, _⟩ | ⟨h, _⟩
  · rw [hT, hB, Nat.gcd_one_right, Nat.div_one, Nat.div_one] at *
    have hd : (decide ((x - y).natAbs < 10 ^ 600) && decide (1 < 10 ^ 600)) = true := by rw [decide_eq_true hlt, decide_eq_true one_lt_600]; rfl
    rw [hd] at h1 ⊢
    exact ⟨s, rfl, WT.of_num hlt rfl rfl (h1 rfl)⟩
  · rw [ao, bo] at h; cases h
end Go.Proofs.YthbnacikomimfaaDoor

/-
  What divide of impl's whole numbers answers: written by gen/wholediv.py.
-/
namespace Go.Proofs.YthbnacikomimfaaDoor
open Go.RowKit
set_option linter.unusedVariables false

theorem run_row_whole {o : Oper} {a : Act} {w : World} (x : Operand) (ho : o.op = .load 69 x) (b : Nat) (hx : a.eval x = .pointer (some ⟨b, 0, none⟩)) (g : Bool) (u : Int) (p : List Int) (hN : WholeAt w b g u p) (hl : p.length = 204) :
    (execOp a.eval o).run Tryd.prog w = .ok (.value (.agg (wholeC g u p))) w := by
  unfold execOp
  simp only [ho, hx, Instr.loadAt, Instr.sureAddr, Sem.run_bind, Sem.run_pure, Result.andThen_ok, run_loadVar_row w b 69 69 (wholeC g u p) (0, 0) _ hN Tryd.underlying69 rfl (whole_info g u p hl)]
theorem res_whole2 {fn : Func} {x y : Tmp} (h : fn.results = #[.cell x 69, .cell y 69]) (tmps : Array Value) (w : World) (b c : Nat) (g g' : Bool) (n m : Int) (p q : List Int)
    (hx : tmps.getD x undef = .pointer (some ⟨b, 0, none⟩)) (hy : tmps.getD y undef = .pointer (some ⟨c, 0, none⟩)) (hN : WholeAt w b g n p) (hM : WholeAt w c g' m q) (hl : p.length = 204) (hm : q.length = 204) :
    (results fn tmps).run Tryd.prog w = .ok (.tuple #[.agg (wholeC g n p), .agg (wholeC g' m q)]) w := by
  have e1 := run_loadVar_row w b 69 69 (wholeC g n p) (0, 0) _ hN Tryd.underlying69 rfl (whole_info g n p hl)
  have e2 := run_loadVar_row w c 69 69 (wholeC g' m q) (0, 0) _ hM Tryd.underlying69 rfl (whole_info g' m q hm)
  have hx' : tmps[x]?.getD undef = .pointer (some ⟨b, 0, none⟩) := by simpa using hx
  have hy' : tmps[y]?.getD undef = .pointer (some ⟨c, 0, none⟩) := by simpa using hy
  simp [results, h, hx', hy', asAddr, e1, e2]

end Go.Proofs.YthbnacikomimfaaDoor

/-
  A drawn region in which operations and calls come up one behind the other, and besides, at any time, one new variable (x := f(g(..), h(..))): however many calls there are.
-/
namespace Go.Proofs.YthbnacikomimfaaDoor
open Go.RowKit
set_option linter.unusedVariables false

/-- The new variable is there, or not yet, whatever new memory there is besides. -/
def Fl (ops : Array Oper) (Q : Exit → Act → World → Prop) (md : Region.Mode) (S : World → Prop) (ia : Nat) (da : Tmp) (T : TypeId) (zero : Array Value) (B : Nat) (w0 : World) (fuel : Nat) (listed : Array Bool) (a : Act) : Prop :=
  ∀ w, Below w0.heap.size w0 w → wpAnyH Tryd.prog md ops Q S (fuel + 1) listed a w ∧
    ∀ px, RowAt w px T zero → B ≤ px → wpAnyH Tryd.prog md ops Q S fuel (listed.setIfInBounds ia true) (a.put (some da) (.pointer (some ⟨px, 0, none⟩))) w

section
variable {ops : Array Oper} {Q : Exit → Act → World → Prop} {md : Region.Mode} {S : World → Prop} {ia : Nat} {da : Tmp} {T : TypeId} {zero : Array Value} {B : Nat} {w0 : World} {fuel : Nat} {listed : Array Bool} {a : Act} {o oa : Oper}

theorem float_begin {id : Nat} {w : World} (S : World → Prop) (ia : Nat) (da : Tmp) (T : TypeId) (zero : Array Value) (B fuel : Nat) (hm : Tryd.prog.follows .mixedOrders = true) (hn : ops.size = fuel + 1) (h : Fl ops (NoPanic Q) .any S ia da T zero B w.drew fuel (Array.replicate ops.size false) a) : (Code.region id ops true).wp Tryd.prog Q a w := by
  refine held_begin S hm ?_
  have := (h w.drew (Below.refl _ _)).1
  rwa [← hn] at this

theorem float_val (i : Nat) (d : Tmp) (hi : ops[i]? = some o) (hd : o.dst = some d) (hs : Region.noSelect ops = true) (hf : Region.free md ops listed i = true) (hr : (Region.ready md ops listed).contains i = true)
    (hf' : Region.free md ops (listed.setIfInBounds ia true) i = true) (hr' : (Region.ready md ops (listed.setIfInBounds ia true)).contains i = true)
    (hQ : ∀ c a d v w, Q (.panic c) (Act.put a d v) w → Q (.panic c) a w) (hg : ∀ ts, Region.wanted o ts = true) (hne : i ≠ ia) (hde : d ≠ da) (v : Value)
    (hv : ∀ w, S w → (execOp a.eval o).run Tryd.prog w = .ok (.value v) w) (hv' : ∀ x w, S w → (execOp (a.put (some da) x).eval o).run Tryd.prog w = .ok (.value v) w)
    (hS : ∀ w, Below w0.heap.size w0 w → S w) (h : Fl ops Q md S ia da T zero B w0 fuel (listed.setIfInBounds i true) (a.put (some d) v)) : Fl ops Q md S ia da T zero B w0 (fuel + 1) listed a := by
  intro w hw
  obtain ⟨h1, h2⟩ := h w hw
  refine ⟨held_valS i (some d) hi hd hs hf hr hQ (hg _) v hv (hS w hw) h1, fun px hx hb => ?_⟩
  refine held_valS i (some d) hi hd hs hf' hr' hQ (hg _) v (hv' _) (hS w hw) ?_
  rw [Array.setIfInBounds_comm (xs := listed) true true (Ne.symm hne), put_comm2 _ da d _ _ (Ne.symm hde)]
  exact h2 px hx hb

theorem float_call (i : Nat) (d : Tmp) (hi : ops[i]? = some o) (hia : ops[ia]? = some oa) (hd : o.dst = some d) (hda : oa.dst = some da) (hoa : oa.op = .alloc T) (hg : ∀ ts, Region.wanted o ts = true) (hga : ∀ ts, Region.wanted oa ts = true)
    (hr : Region.ready md ops listed = [i, ia]) (hr' : Region.ready md ops (listed.setIfInBounds ia true) = [i]) (hne : i ≠ ia) (hde : d ≠ da)
    (hz : ∀ w, (zeroValue T).run Tryd.prog w = .ok (.agg zero) w) (hB : B ≤ w0.heap.size) (f : FuncId) (args : Array Value)
    (he : ∀ w, (execOp a.eval o).run Tryd.prog w = .ok (.enter f args) w) (he' : ∀ x w, (execOp (a.put (some da) x).eval o).run Tryd.prog w = .ok (.enter f args) w)
    (hS : ∀ w, Below w0.heap.size w0 w → S w) (R : World → Ending → World → Prop) (hc : ∀ w, Below w0.heap.size w0 w → Calls Tryd.prog f args w (R w))
    (h : ∀ w e w', Below w0.heap.size w0 w → R w e w' → ∃ v, e = .returned v ∧ Below w.heap.size w w' ∧ Fl ops Q md S ia da T zero B w' fuel (listed.setIfInBounds i true) (a.put (some d) v)) : Fl ops Q md S ia da T zero B w0 (fuel + 1) listed a := by
  have sec : ∀ w, Below w0.heap.size w0 w → ∀ px, RowAt w px T zero → B ≤ px → wpAnyH Tryd.prog md ops Q S (fuel + 1) (listed.setIfInBounds ia true) (a.put (some da) (.pointer (some ⟨px, 0, none⟩))) w := by
    intro w hw px hx hb
    refine wpAnyH_ready hr' (by simp) ?_
    refine ready_call2 i (some d) hi (hg _) hd f args (he' _ w) (R w) (hc w hw) ?_ AllReadyH.nil
    intro e w' hR
    obtain ⟨v, hv, hW, hF⟩ := h w e w' hw hR
    refine ⟨v, hv, hS _ (hw.trans (hW.mono hw.size)), ?_⟩
    rw [Array.setIfInBounds_comm (xs := listed) true true (Ne.symm hne), put_comm2 _ da d _ _ (Ne.symm hde)]
    exact (hF w' (Below.refl _ _)).2 px (hx.below hW hx.lt) hb
  intro w hw
  refine ⟨?_, sec w hw⟩
  refine wpAnyH_ready hr (by simp) ?_
  refine ready_call2 i (some d) hi (hg _) hd f args (he w) (R w) (hc w hw) ?_ ?_
  · intro e w' hR
    obtain ⟨v, hv, hW, hF⟩ := h w e w' hw hR
    exact ⟨v, hv, hS _ (hw.trans (hW.mono hw.size)), (hF w' (Below.refl _ _)).1⟩
  · have hw2 : Below w0.heap.size w0 (w.alloc (.cells zero T)) := hw.alloc hw.size _
    exact ready_val2 ia (some da) hia (hga _) hda _ _ (run_alloc1 hoa hz) (hS _ hw2) (sec _ hw2 w.heap.size (RowAt.new w T zero) (Nat.le_trans hB hw.size)) AllReadyH.nil

theorem float_end (hia : ops[ia]? = some oa) (hda : oa.dst = some da) (hoa : oa.op = .alloc T) (hga : ∀ ts, Region.wanted oa ts = true) (hr : Region.ready md ops listed = [ia])
    (hz : ∀ w, (zeroValue T).run Tryd.prog w = .ok (.agg zero) w) (hB : B ≤ w0.heap.size) (hS : ∀ w, Below w0.heap.size w0 w → S w)
    (h : ∀ w px, Below w0.heap.size w0 w → RowAt w px T zero → B ≤ px → wpAnyH Tryd.prog md ops Q S fuel (listed.setIfInBounds ia true) (a.put (some da) (.pointer (some ⟨px, 0, none⟩))) w) : Fl ops Q md S ia da T zero B w0 fuel listed a := by
  intro w hw
  refine ⟨?_, fun px hx hb => h w px hw hx hb⟩
  refine wpAnyH_ready hr (by simp) ?_
  have hw2 : Below w0.heap.size w0 (w.alloc (.cells zero T)) := hw.alloc hw.size _
  exact ready_val2 ia (some da) hia (hga _) hda _ _ (run_alloc1 hoa hz) (hS _ hw2) (h _ w.heap.size hw2 (RowAt.new w T zero) (Nat.le_trans hB hw.size)) AllReadyH.nil
end
end Go.Proofs.YthbnacikomimfaaDoor

/-
  What less of impl's whole numbers answers; combinations (a number and two whole ones) in memory.
-/
namespace Go.Proofs.YthbnacikomimfaaDoor
open Go.RowKit
set_option linter.unusedVariables false

theorem sg_of (x : Int) : sg (decide (x < 0)) x.natAbs = x := sg_abs_of x
set_option maxHeartbeats 2000000 in
set_option maxRecDepth 100000 in
theorem less_any {k j m : Nat} {p q : List Int} (x y : Int) (g' : Bool) (w : World) (hP : Rep x.natAbs k p) (hQ : Rep m j q) (hy : sg g' m = y) (hk : k ≤ 201) (hj : j ≤ 201) :
    Calls Tryd.prog 66 #[.agg (wholeC (decide (x < 0)) k p), .agg (wholeC g' j q)] w fun e w' => ∃ (i : Nat) (r : List Int), e = .returned (.agg (wholeC (decide (x - y < 0)) i r)) ∧ Rep (x - y).natAbs i r ∧ Below w.heap.size w w' := by
  have hz := zero_whole.1
  have hp := hP.len
  have hq := hQ.len
  obtain ⟨g, hg⟩ : ∃ g, g = decide (x < 0) := ⟨_, rfl⟩
  have A := (WholeAt.new w g k p |> fun h => RowAt.old h (.cells (wholeC g' j q) 69) |> fun h => RowAt.old h (.cells (wholeC false 0 zP) 69))
  have B := (WholeAt.new (w.alloc (.cells (wholeC g k p) 69)) g' j q |> fun h => RowAt.old h (.cells (wholeC false 0 zP) 69))
  have C := WholeAt.new ((w.alloc (.cells (wholeC g k p) 69)).alloc (.cells (wholeC g' j q) 69)) false 0 zP
  have hB : Below w.heap.size w (((w.alloc (.cells (wholeC g k p) 69)).alloc (.cells (wholeC g' j q) 69)).alloc (.cells (wholeC false 0 zP) 69)) := (((Below.refl _ _).alloc (Nat.le_refl _) _).alloc (by first | (simp; done) | (simp; omega)) _).alloc (by first | (simp; done) | (simp; omega)) _
  have hws : (((w.alloc (.cells (wholeC g k p) 69)).alloc (.cells (wholeC g' j q) 69)).alloc (.cells (wholeC false 0 zP) 69)).heap.size = w.heap.size + 1 + 1 + 1 := by simp
  simp only [World.size_alloc] at B C
  rw [← hg]
  have HG := hide (And.intro hg hy)
  have HP := hide (And.intro hP hQ)
  clear hP hQ hg hy
  go_enter Tryd.func66, Tryd.ntmps66
  generalize hw0 : ((w.alloc (.cells (wholeC g k p) 69)).alloc (.cells (wholeC g' j q) 69)).alloc (.cells (wholeC false 0 zP) 69) = w0 at A B C hB hws
  go_wp2_with fail
  clear hw0
  refine held_begin (fun w' => WholeAt w' w.heap.size g k p ∧ WholeAt w' (w.heap.size + 1) g' j q) (by kernel_rfl) ?_
  have hS : WholeAt w0.drew w.heap.size g k p ∧ WholeAt w0.drew (w.heap.size + 1) g' j q := ⟨A, B⟩
  refine held_valS 0 (some 5) rfl rfl (by kernel_rfl) (by kernel_rfl) (by kernel_rfl) noPanic_put rfl (.agg (wholeC g k p)) (fun _ h => run_row_whole _ rfl w.heap.size rfl g k p h.1 hp) hS ?_
  simp only [Act.put, List.setIfInBounds_toArray, List.set_cons_zero, List.set_cons_succ]
  refine held_val 1 (some 6) rfl rfl (by kernel_rfl) (by kernel_rfl) (by kernel_rfl) noPanic_put rfl (.pointer (some ⟨w.heap.size + 1, 0, none⟩)) (fun _ => by go_simp) hS ?_
  simp only [Act.put, List.setIfInBounds_toArray, List.set_cons_zero, List.set_cons_succ]
  refine held_valS 2 (some 7) rfl rfl (by kernel_rfl) (by kernel_rfl) (by kernel_rfl) noPanic_put rfl (.bool g') (fun _ h => BL.run_cell1 (.tmp 6) 4 rfl ⟨w.heap.size + 1, 0, none⟩ rfl _ Tryd.underlying4 rfl h.2.neg) hS ?_
  simp only [Act.put, List.setIfInBounds_toArray, List.set_cons_zero, List.set_cons_succ]
  refine held_val 3 (some 8) rfl rfl (by kernel_rfl) (by kernel_rfl) (by kernel_rfl) noPanic_put rfl (.bool (!g')) (fun _ => by go_simp) hS ?_
  simp only [Act.put, List.setIfInBounds_toArray, List.set_cons_zero, List.set_cons_succ]
  refine held_val 4 (some 9) rfl rfl (by kernel_rfl) (by kernel_rfl) (by kernel_rfl) noPanic_put rfl (.pointer (some ⟨w.heap.size + 1, 1, none⟩)) (fun _ => by go_simp) hS ?_
  simp only [Act.put, List.setIfInBounds_toArray, List.set_cons_zero, List.set_cons_succ]
  refine held_valS 5 (some 10) rfl rfl (by kernel_rfl) (by kernel_rfl) (by kernel_rfl) noPanic_put rfl (.agg (natC j q)) (fun _ h => run_mid_nat _ rfl (w.heap.size + 1) 1 rfl j q h.2.size hq) hS ?_
  simp only [Act.put, List.setIfInBounds_toArray, List.set_cons_zero, List.set_cons_succ]
  refine held_call 6 (some 11) (by kernel_rfl) rfl rfl rfl 91 #[.bool (!g'), .agg (natC j q)] (by go_simp) _ (wholeOf_any (!g') j q w0.drew hq) ?_
  rintro e w1 ⟨rfl, hW1⟩
  have hs1 : w0.heap.size ≤ w1.heap.size := hW1.size
  have hS1 : WholeAt w1 w.heap.size g k p ∧ WholeAt w1 (w.heap.size + 1) g' j q := ⟨RowAt.below hS.1 hW1 (by show _ < w0.heap.size; omega), RowAt.below hS.2 hW1 (by show _ < w0.heap.size; omega)⟩
  refine ⟨_, rfl, hS1, ?_⟩
  simp only [Act.put, List.setIfInBounds_toArray, List.set_cons_zero, List.set_cons_succ]
  refine held_call 7 (some 12) (by kernel_rfl) rfl rfl rfl 90 #[.agg (wholeC g k p), .agg (wholeC (!g' && decide (0 < j)) j q)] (by go_simp) _ (added_any g (!g' && decide (0 < j)) w1 HP.out.1 HP.out.2 hk hj (fun h => by have := HG.out.1; rw [h] at this; have := of_decide_eq_true this.symm; omega)) ?_
  rintro e w2 ⟨i, r, rfl, hR, hW2⟩
  have hs2 := hW2.size
  have hS2 : WholeAt w2 w.heap.size g k p ∧ WholeAt w2 (w.heap.size + 1) g' j q := ⟨RowAt.below hS1.1 hW2 (by omega), RowAt.below hS1.2 hW2 (by omega)⟩
  have hrl := hR.len
  refine ⟨_, rfl, hS2, ?_⟩
  simp only [Act.put, List.setIfInBounds_toArray, List.set_cons_zero, List.set_cons_succ]
  have C2 : WholeAt w2 (w.heap.size + 1 + 1) false 0 zP := RowAt.below (RowAt.below (w := w0.drew) C hW1 (by show _ < w0.heap.size; omega)) hW2 (by omega)
  have hval : sg g x.natAbs + sg (!g' && decide (0 < j)) m = x - y := by
    have e1 : sg g x.natAbs = x := by rw [HG.out.1]; exact sg_of x
    have e2 : sg (!g' && decide (0 < j)) m = -y := by
      rw [← HG.out.2]
      by_cases h0 : m = 0
      · rw [h0]; unfold sg; simp
      · have hj0 : 0 < j := Nat.pos_of_ne_zero (fun h => h0 (HP.out.2.zero_iff.1 h))
        rw [decide_eq_true hj0, Bool.and_true]
        unfold sg; cases g' <;> simp
    rw [e1, e2]; omega
  rw [hval] at hR ⊢
  have HR := hide hR
  refine held_store_whole 8 (by kernel_rfl) rfl rfl _ _ rfl rfl (w.heap.size + 1 + 1) (decide (x - y < 0)) i r rfl rfl false 0 zP C2 zP_len hrl ?_
  intro w3 hN3 hg3 hs3
  refine ⟨⟨RowAt.grown hS2.1 hg3 (by simp; omega), RowAt.grown hS2.2 hg3 (by simp)⟩, ?_⟩
  refine wpAnyH_done (by kernel_rfl) ?_ _
  refine NoPanic.normal ?_
  have hB2 : Below w.heap.size w w2 := (hB.drew.trans (hW1.mono hB.size)).trans (hW2.mono (by have := hB.size; omega))
  go_wp2
  refine bodyPost_ret (v := .agg (wholeC (decide (x - y < 0)) i r)) (res_whole Tryd.results66 _ _ (w.heap.size + 1 + 1) _ _ _ rfl hN3 hrl) rfl ⟨i, r, rfl, HR.out, hB2.grown hg3 (by have := hB2.size; omega) (by intro k hk; cases hk; omega)⟩

/-- A combination's cells. -/
def combL (u : Int) (p : List Int) (g1 : Bool) (u1 : Int) (p1 : List Int) (g2 : Bool) (u2 : Int) (p2 : List Int) : List Value := natL u p ++ (Value.bool g1 :: natL u1 p1) ++ (Value.bool g2 :: natL u2 p2)
def combC (u : Int) (p : List Int) (g1 : Bool) (u1 : Int) (p1 : List Int) (g2 : Bool) (u2 : Int) (p2 : List Int) : Array Value := (combL u p g1 u1 p1 g2 u2 p2).toArray
def CombAt (w : World) (b : Nat) (u : Int) (p : List Int) (g1 : Bool) (u1 : Int) (p1 : List Int) (g2 : Bool) (u2 : Int) (p2 : List Int) : Prop := RowAt w b 94 (combC u p g1 u1 p1 g2 u2 p2)
section
variable {w : World} {b : Nat} {u : Int} {p : List Int} {g1 : Bool} {u1 : Int} {p1 : List Int} {g2 : Bool} {u2 : Int} {p2 : List Int}
theorem CombAt.sum (h : CombAt w b u p g1 u1 p1 g2 u2 p2) : w.rangeAt b 0 (natL u p) := by
  have h' : RowAt w b 94 ([] ++ natL u p ++ ((Value.bool g1 :: natL u1 p1) ++ (Value.bool g2 :: natL u2 p2))).toArray := by
    have := h; unfold CombAt combC combL at this; simpa using this
  exact h'.range
theorem CombAt.x (h : CombAt w b u p g1 u1 p1 g2 u2 p2) (hp : p.length = 204) : w.rangeAt b 205 (Value.bool g1 :: natL u1 p1) := by
  have h' : RowAt w b 94 (natL u p ++ (Value.bool g1 :: natL u1 p1) ++ (Value.bool g2 :: natL u2 p2)).toArray := h
  have := h'.range
  rwa [natL_len, hp] at this
theorem CombAt.y (h : CombAt w b u p g1 u1 p1 g2 u2 p2) (hp : p.length = 204) (hp1 : p1.length = 204) : w.rangeAt b 411 (Value.bool g2 :: natL u2 p2) := by
  have h' : RowAt w b 94 ((natL u p ++ (Value.bool g1 :: natL u1 p1)) ++ (Value.bool g2 :: natL u2 p2) ++ []).toArray := by
    have := h; unfold CombAt combC combL at this; simpa using this
  have := h'.range
  rwa [List.length_append, List.length_cons, natL_len, natL_len, hp, hp1] at this
theorem CombAt.used (h : CombAt w b u p g1 u1 p1 g2 u2 p2) : w.cell? ⟨b, 0, none⟩ = some (.int .i64 u) := h.sum 0 _ rfl
end
theorem comb_len (u : Int) (p : List Int) (g1 : Bool) (u1 : Int) (p1 : List Int) (g2 : Bool) (u2 : Int) (p2 : List Int) (h : p.length = 204) (h1 : p1.length = 204) (h2 : p2.length = 204) : (combC u p g1 u1 p1 g2 u2 p2).size = 617 := by
  simp [combC, combL, natL_len, h, h1, h2]
theorem zero_comb : (∀ w, (zeroValue 94).run Tryd.prog w = .ok (.agg (combC 0 zP false 0 zP false 0 zP)) w) ∧ (Tryd.prog.info? 94).map (·.size) = some 617 := zero_of_info (by kernel_rfl)
theorem comb_info (u : Int) (p : List Int) (g1 : Bool) (u1 : Int) (p1 : List Int) (g2 : Bool) (u2 : Int) (p2 : List Int) (h : p.length = 204) (h1 : p1.length = 204) (h2 : p2.length = 204) : (Tryd.prog.info? 94).map (·.size) = some (combC u p g1 u1 p1 g2 u2 p2).size := by
  rw [comb_len u p g1 u1 p1 g2 u2 p2 h h1 h2]; exact zero_comb.2
theorem comb_one (u : Int) (p : List Int) (g1 : Bool) (u1 : Int) (p1 : List Int) (g2 : Bool) (u2 : Int) (p2 : List Int) : (combC u p g1 u1 p1 g2 u2 p2).all (·.oneCell') = true := by
  rw [Array.all_eq_true_iff_forall_mem]
  intro v hv
  simp only [combC, combL, List.mem_toArray, List.mem_append, List.mem_cons] at hv
  rcases hv with (h | h | h) | h | h
  · exact natL_one _ _ v h
  · rw [h]; rfl
  · exact natL_one _ _ v h
  · rw [h]; rfl
  · exact natL_one _ _ v h
theorem comb_places : ∃ fields : Array Field, Tryd.prog.underlying 94 = some (.struct fields) ∧ fields.toList.mapM (fun f => (Tryd.prog.info? f.type).map fun i => (f.offset, i.size)) = some [(0, 205), (205, 206), (411, 206)] := by
  exact ⟨_, Tryd.underlying94, by kernel_rfl⟩
theorem wholeL (g : Bool) (u : Int) (p : List Int) : (Value.agg (wholeC g u p)).cells.toList = Value.bool g :: natL u p := rfl
theorem built_comb3 (u : Int) (p : List Int) (g1 : Bool) (u1 : Int) (p1 : List Int) (g2 : Bool) (u2 : Int) (p2 : List Int) (h : p.length = 204) (h1 : p1.length = 204) (h2 : p2.length = 204) : Tryd.prog.built 94 [(0, .agg (natC u p)), (1, .agg (wholeC g1 u1 p1)), (2, .agg (wholeC g2 u2 p2))] = some (combC u p g1 u1 p1 g2 u2 p2) := by
  obtain ⟨fs, e1, e2⟩ := comb_places
  have hz : (Tryd.prog.info? 94).bind (·.zero) = some (.agg (combC 0 zP false 0 zP false 0 zP)) := by kernel_rfl
  rw [built_of e1 hz e2]
  have s0 : combC 0 zP false 0 zP false 0 zP = (([] : List Value) ++ natL 0 zP ++ ((Value.bool false :: natL 0 zP) ++ (Value.bool false :: natL 0 zP))).toArray := by simp [combC, combL]
  rw [s0, fill_step _ [] (natL 0 zP) _ 0 _ _ (by rw [natL_len, zP_len]; rfl) (by rw [cells_agg, natC_eq]; simp [natL_len, zP_len, h])]
  rw [show (([] : List Value) ++ (Value.agg (natC u p)).cells.toList ++ ((Value.bool false :: natL 0 zP) ++ (Value.bool false :: natL 0 zP))).toArray = (natL u p ++ (Value.bool false :: natL 0 zP) ++ (Value.bool false :: natL 0 zP)).toArray by rw [cells_agg, natC_eq]; simp]
  rw [fill_step _ (natL u p) (Value.bool false :: natL 0 zP) _ 1 _ _ (by rw [natL_len, h, List.length_cons, natL_len, zP_len]; rfl) (by rw [wholeL]; simp [natL_len, zP_len, h1]), wholeL]
  rw [show (natL u p ++ (Value.bool g1 :: natL u1 p1) ++ (Value.bool false :: natL 0 zP)).toArray = ((natL u p ++ (Value.bool g1 :: natL u1 p1)) ++ (Value.bool false :: natL 0 zP) ++ []).toArray by simp]
  rw [fill_step _ (natL u p ++ (Value.bool g1 :: natL u1 p1)) (Value.bool false :: natL 0 zP) [] 2 _ _ (by rw [List.length_append, List.length_cons, List.length_cons, natL_len, natL_len, natL_len, zP_len, h, h1]; rfl) (by rw [wholeL]; simp [natL_len, zP_len, h2]), wholeL]
  simp [Instr.fill, combC, combL]
theorem built_comb01 (u : Int) (p : List Int) (g1 : Bool) (u1 : Int) (p1 : List Int) (h : p.length = 204) (h1 : p1.length = 204) : Tryd.prog.built 94 [(0, .agg (natC u p)), (1, .agg (wholeC g1 u1 p1))] = some (combC u p g1 u1 p1 false 0 zP) := by
  obtain ⟨fs, e1, e2⟩ := comb_places
  have hz : (Tryd.prog.info? 94).bind (·.zero) = some (.agg (combC 0 zP false 0 zP false 0 zP)) := by kernel_rfl
  rw [built_of e1 hz e2]
  have s0 : combC 0 zP false 0 zP false 0 zP = (([] : List Value) ++ natL 0 zP ++ ((Value.bool false :: natL 0 zP) ++ (Value.bool false :: natL 0 zP))).toArray := by simp [combC, combL]
  rw [s0, fill_step _ [] (natL 0 zP) _ 0 _ _ (by rw [natL_len, zP_len]; rfl) (by rw [cells_agg, natC_eq]; simp [natL_len, zP_len, h])]
  rw [show (([] : List Value) ++ (Value.agg (natC u p)).cells.toList ++ ((Value.bool false :: natL 0 zP) ++ (Value.bool false :: natL 0 zP))).toArray = (natL u p ++ (Value.bool false :: natL 0 zP) ++ (Value.bool false :: natL 0 zP)).toArray by rw [cells_agg, natC_eq]; simp]
  rw [fill_step _ (natL u p) (Value.bool false :: natL 0 zP) _ 1 _ _ (by rw [natL_len, h, List.length_cons, natL_len, zP_len]; rfl) (by rw [wholeL]; simp [natL_len, zP_len, h1]), wholeL]
  simp [Instr.fill, combC, combL]
theorem built_comb02 (u : Int) (p : List Int) (g2 : Bool) (u2 : Int) (p2 : List Int) (h : p.length = 204) (h2 : p2.length = 204) : Tryd.prog.built 94 [(0, .agg (natC u p)), (2, .agg (wholeC g2 u2 p2))] = some (combC u p false 0 zP g2 u2 p2) := by
  obtain ⟨fs, e1, e2⟩ := comb_places
  have hz : (Tryd.prog.info? 94).bind (·.zero) = some (.agg (combC 0 zP false 0 zP false 0 zP)) := by kernel_rfl
  rw [built_of e1 hz e2]
  have s0 : combC 0 zP false 0 zP false 0 zP = (([] : List Value) ++ natL 0 zP ++ ((Value.bool false :: natL 0 zP) ++ (Value.bool false :: natL 0 zP))).toArray := by simp [combC, combL]
  rw [s0, fill_step _ [] (natL 0 zP) _ 0 _ _ (by rw [natL_len, zP_len]; rfl) (by rw [cells_agg, natC_eq]; simp [natL_len, zP_len, h])]
  rw [show (([] : List Value) ++ (Value.agg (natC u p)).cells.toList ++ ((Value.bool false :: natL 0 zP) ++ (Value.bool false :: natL 0 zP))).toArray = ((natL u p ++ (Value.bool false :: natL 0 zP)) ++ (Value.bool false :: natL 0 zP) ++ []).toArray by rw [cells_agg, natC_eq]; simp]
  rw [fill_step _ (natL u p ++ (Value.bool false :: natL 0 zP)) (Value.bool false :: natL 0 zP) [] 2 _ _ (by rw [List.length_append, List.length_cons, natL_len, natL_len, zP_len, h]; rfl) (by rw [wholeL]; simp [natL_len, zP_len, h2]), wholeL]
  simp [Instr.fill, combC, combL]
/-- A row of whatever struct is read whole. -/
theorem run_rowT {o : Oper} {a : Act} {w : World} (x : Operand) (T : TypeId) (ho : o.op = .load T x) (b : Nat) (hx : a.eval x = .pointer (some ⟨b, 0, none⟩)) (cs : Array Value) (fs : Array Field) (hN : RowAt w b T cs) (hu : Tryd.prog.underlying T = some (.struct fs)) (hi : (Tryd.prog.info? T).map (·.size) = some cs.size) :
    (execOp a.eval o).run Tryd.prog w = .ok (.value (.agg cs)) w := by
  unfold execOp
  simp only [ho, hx, Instr.loadAt, Instr.sureAddr, Sem.run_bind, Sem.run_pure, Result.andThen_ok, run_loadVar_row w b T T cs (0, 0) _ hN hu rfl hi]
end Go.Proofs.YthbnacikomimfaaDoor

/-
  The iterator that terms of impl's nums gives: the terms of a continued fraction, one by one.
-/
namespace Go.Proofs.YthbnacikomimfaaDoor
open Go.RowKit Go.Shelf
set_option linter.unusedVariables false
attribute [local go_sem] Oper.semAt_some

theorem alloc_grownT (w : World) (o : Obj) (r : Option Nat) : w.grownBy (w.alloc o) r := World.grownBy_alloc w o r
theorem WholeAt.all {w : World} {b : Nat} {g : Bool} {u : Int} {p : List Int} (h : WholeAt w b g u p) : w.rangeAt b 0 (Value.bool g :: natL u p) := by
  have h' : RowAt w b 69 ([] ++ (Value.bool g :: natL u p) ++ []).toArray := by simpa [WholeAt, wholeC] using h
  exact h'.range
theorem KeepsB.row {V : Nat → Prop} {W W' : World} {b : Nat} {t : TypeId} {cs : Array Value} (h : KeepsB V W W') (hR : RowAt W b t cs) (hV : ¬ V b) : RowAt W' b t cs := by
  unfold RowAt at hR ⊢; rw [h.2 b (RowAt.lt hR) hV]; exact hR
/-- What is given: a term's sign, its number, and that number's parts. -/
def encT (x : Bool × Nat × Nat × List Int) : Array Value := #[.agg (wholeC x.1 x.2.2.1 x.2.2.2)]
def prT (x : Bool × Nat × Nat × List Int) : Bool × Nat := (x.1, x.2.1)
def TNeed (h0 : Nat) (g : Bool) (k : Nat) (p : List Int) (j : Nat) (q : List Int) (U : Nat → Prop) (W : World) : Prop := NumAt W h0 g k p j q ∧ ¬ U h0
def TNx (T : List (Bool × Nat)) (pre : List (Bool × Nat × Nat × List Int)) (x : Bool × Nat × Nat × List Int) (V : Nat → Prop) (W : World) : Prop := (∃ post, T = pre.map prT ++ prT x :: post) ∧ Rep x.2.1 x.2.2.1 x.2.2.2 ∧ x.2.2.1 ≤ 100
/-- A whole number is stored in a num's front. -/
theorem store_front_wp {op : Oper} {a : Act} {w : World} {K : Act → World → Prop} {Q : Exit → Act → World → Prop} (x y : Operand) (ho : op.op = .store 69 x y) (hd : op.dst = none)
    (b : Nat) (g : Bool) (u : Int) (p : List Int) (hx : a.eval x = .pointer (some ⟨b, 0, none⟩)) (hy : a.eval y = .agg (wholeC g u p)) (g0 : Bool) (u0 : Int) (p0 : List Int) (v : Int) (q : List Int) (hN : NumAt w b g0 u0 p0 v q) (h0 : p0.length = 204) (hl : p.length = 204)
    (h : ∀ w', NumAt w' b g u p v q → w.grownBy w' (some b) → w'.heap.size = w.heap.size → K a w') : op.wp Tryd.prog a w K Q := by
  have hN' : RowAt w b 71 ([] ++ (Value.bool g0 :: natL u0 p0) ++ natL v q).toArray := by rw [← num_split0]; exact hN
  have hth := hN'.there
  rw [List.length_cons, natL_len, h0] at hth
  refine wp_store_mid 69 x y ho b 0 (wholeC g u p) hx hy (by rw [wholeC_size, hl]; exact hth) (whole_info g u p hl) (wholeC_one _ _ _) ?_
  rw [hd]
  have hput := RowAt.put (Value.bool g :: natL u p) 0 w [] (Value.bool g0 :: natL u0 p0) (natL v q) (by rw [List.length_cons, List.length_cons, natL_len, natL_len, h0, hl]) rfl hN'
  rw [← num_split0] at hput
  have e : (wholeC g u p).toList = Value.bool g :: natL u p := by simp [wholeC]
  rw [e]
  obtain ⟨h1, h2⟩ := setCells_grown b (Value.bool g :: natL u p) 0 w
  exact h _ hput h1 h2
theorem many_beginT {ops : Array Oper} {Q : Exit → Act → World → Prop} {a : Act} {w : World} {id : Nat} (ps : List (Nat × (World → Prop))) (S : World → Prop) (hm : Tryd.prog.follows .mixedOrders = true) (h : BL.wpAnyM Tryd.prog .any ops (NoPanic Q) ps S ops.size (Array.replicate ops.size false) a w.drew) : (Code.region id ops true).wp Tryd.prog Q a w :=
  wp_region_noPanic (wp_region_any hm (BL.wpAny_of_many _ _ _ _ h))
theorem many_callT {ops : Array Oper} {Q : Exit → Act → World → Prop} {md : Region.Mode} {ps : List (Nat × (World → Prop))} {S : World → Prop} {o : Oper} {fuel : Nat} {listed : Array Bool} {a : Act} {w : World} (i : Nat) (d : Option Tmp) (hr : Region.ready md ops listed = [i]) (hi : ops[i]? = some o) (hw : Region.wanted o (yielded ops a.tmps) = true) (hd : o.dst = d) (f : FuncId) (args : Array Value)
    (he : (execOp a.eval o).run Tryd.prog w = .ok (.enter f args) w) (R : Ending → World → Prop) (hc : Calls Tryd.prog f args w R)
    (h : ∀ e w', R e w' → ∃ v, e = .returned v ∧ BL.LateAll ps S (listed.setIfInBounds i true) w' ∧ BL.wpAnyM Tryd.prog md ops Q ps S fuel (listed.setIfInBounds i true) (a.put d v) w') : BL.wpAnyM Tryd.prog md ops Q ps S (fuel + 1) listed a w := by
  subst hd
  refine BL.many_one i hr hi hw fun K hK => ?_
  unfold Oper.wp
  rw [he]
  simp only [Oper.upon]
  refine hc.mono ?_
  intro e w' hR
  obtain ⟨v, rfl, hS, hn⟩ := h e w' hR
  exact hK.out _ _ hS hn
theorem late8 {S f : World → Prop} {L : Array Bool} {w : World} (h0 : S w) (h1 : L.getD 8 false = true ∨ f w) : BL.LateAll [(8, f)] S L w := by
  refine ⟨h0, fun p hp => ?_⟩
  simp only [List.mem_cons, List.not_mem_nil, or_false] at hp
  subst hp
  exact h1
theorem not8 {f : World → Prop} (i : Nat) (h1 : 8 ≠ i) : ∀ p ∈ ([(8, f)] : List (Nat × (World → Prop))), p.1 ≠ i := by
  intro p hp
  simp only [List.mem_cons, List.not_mem_nil, or_false] at hp
  subst hp
  exact h1

/-- An operation that gives a value, in a fenced walk. -/
theorem wpIn_val {o : Oper} {a : Act} {w : World} {n : Nat} {K : Act → World → Prop} {Q : Exit → Act → World → Prop} {v : Value} (h : (execOp a.eval o).run Tryd.prog w = .ok (.value v) w) (hK : K (a.put o.dst v) w) : o.wpIn Fence.wide n Tryd.prog a w K Q := by
  refine ⟨fun _ _ => trivial, ?_⟩
  have e : (o.semAt Fence.wide.round a.eval).run Tryd.prog w = .ok (.value v) w := h
  rw [e]
  exact hK
/-- How the iterator stands at a round's begin. -/
structure ItS (J : List (Bool × Nat × Nat × List Int) → (Nat → Prop) → World → Prop) (L : List (Bool × Nat)) (W : World) (ys : List (Bool × Nat × Nat × List Int)) (V : Nat → Prop) (nb : Nat) (g : Bool) (N D k j : Nat) (p q : List Int) (wr : World) : Prop where
  hj : J ys V wr
  nv : ¬ V nb
  wn : W.heap.size ≤ nb
  at_ : NumAt wr nb g k p j q
  rp : Rep N k p
  rq : Rep D j q
  hk : k ≤ 100
  hjj : j ≤ 100
  hd : D ≠ 0
  hg : g = true → N ≠ 0
  hL : L = ys.map prT ++ trm g N D
set_option maxRecDepth 100000 in
set_option maxHeartbeats 8000000 in
theorem terms_seq (h0 : Nat) (g : Bool) (N D k j : Nat) (p q : List Int) (hP : Rep N k p) (hQ : Rep D j q) (hk : k ≤ 100) (hj : j ≤ 100) (hD : D ≠ 0) (hg : g = true → N ≠ 0) :
    SeqOwn Tryd.prog 74 #[.pointer (some ⟨h0, 0, none⟩)] encT (TNeed h0 g k p j q) (TNx (trm g N D)) (fun ys => ys.map prT = trm g N D) := by
  intro l J JF W U hlt hst hY hN hJ
  obtain ⟨L, hL⟩ : ∃ L, L = trm g N D := ⟨_, rfl⟩
  rw [← hL] at hY ⊢
  have hz2 := zero_num.1
  have hz1 := zero_whole.1
  have hp := hP.len
  have hq := hQ.len
  have HY := hideT' hY
  have HST := hideT' hst
  have HLT := hideT' hlt
  have HJ := hideT' hJ
  have HN := hideT' hN
  have HP := hideT' (And.intro hP (And.intro hQ (And.intro hD (And.intro hg hL))))
  clear hlt hst hY hN hJ hP hQ hD hg hL
  have hN0 := HN.out.1
  have hl0 := RowAt.lt hN0
  have N3 := NumAt.new W false 0 zP 0 zP
  have N0 := RowAt.old hN0 (.cells (numC false 0 zP 0 zP) 71)
  refine callsIn_of_wp Tryd.func74 rfl trivial ?_ rfl
  simp only [Tryd.ntmps74, List.size_toArray, List.length_cons, List.length_nil, Nat.reduceAdd, Nat.reduceSub, Array.replicate_succ, Array.replicate_zero, List.push_toArray, List.append_toArray, List.nil_append, List.cons_append]
  refine wpIn_seq_k fun K1 hK1 => ?_
  have HK1 := hideT' hK1
  clear hK1
  refine wpIn_wide.2 ?_
  go_wp2_with (first | (refine load_num rfl (.tmp 1) rfl h0 rfl g k p j q hN0 hp hq ?_) | (refine store_num rfl (.tmp 3) _ rfl rfl W.heap.size g k p j q rfl rfl false 0 zP 0 zP N3 zP_len zP_len hp hq ?_; intro w1 hN1 hg1 hs1))
  refine HK1.out _ _ ?_
  have hJ1 : J [] U w1 := HST.out _ _ _ _ (some W.heap.size) (HST.out _ _ _ _ none HJ.out (alloc_grownT W _ none) (fun r e => by cases e)) hg1 (fun r e => by cases e; exact ⟨fun h => by have := HLT.out _ _ _ HJ.out _ h; omega, Nat.le_refl _⟩)
  have HI : Hid (ItS J L W [] U W.heap.size g N D k j p q w1) := ⟨hJ1, fun h => by have := HLT.out _ _ _ HJ.out _ h; omega, Nat.le_refl _, hN1, HP.out.1, HP.out.2.1, hk, hj, HP.out.2.2.1, HP.out.2.2.2.1, by simpa using HP.out.2.2.2.2⟩
  clear HK1 hJ1 hN1 hg1 hs1 N3 N0 hN0 HJ HN
  refine wpIn_block ?_
  gi_loopg [3] D (fun gk x wr => ∃ (nb : Nat) (ys : List (Bool × Nat × Nat × List Int)) (V : Nat → Prop) (g2 : Bool) (N2 D2 k2 j2 : Nat) (p2 q2 : List Int), gk = D2 ∧ x = .pointer (some ⟨nb, 0, none⟩) ∧ Hid (ItS J L W ys V nb g2 N2 D2 k2 j2 p2 q2 wr))
  case atStart => exact ⟨W.heap.size, [], U, g, N, D, k, j, p, q, rfl, rfl, HI.out⟩
  case round =>
    clear HI HP hp hq hk hj hl0
    obtain ⟨nb, ys, V, g2, N2, D2, k2, j2, p2, q2, hgk, rfl, HI⟩ := hrel
    have HG := hideT' hgk
    clear hgk
    have hN := HI.out.at_
    have hnl := RowAt.lt hN
    have hp2 := HI.out.rp.len
    have hq2 := HI.out.rq.len
    have hj0 : 0 < j2 := by
      rcases Nat.eq_zero_or_pos j2 with h | h
      · exact absurd (HI.out.rq.zero_iff.1 h) HI.out.hd
      · exact h
    refine wpIn_seq_k fun KB hKB => ?_
    have HKB := hideT' hKB
    clear hKB
    refine wpIn_block ?_
    refine wpIn_seq_k fun K2 hK2 => ?_
    have HK2 := hideT' hK2
    clear hK2
    refine wpIn_wide.2 ?_
    go_wp2_with (first | (refine load_num rfl (.tmp 3) rfl nb rfl g2 k2 p2 j2 q2 hN hp2 hq2 ?_))
    refine (floor_any g2 wr HI.out.rp HI.out.rq HI.out.hk hj0).mono ?_
    rintro e w2 ⟨i, r, rfl, hR, hW2⟩
    have hr := hR.len
    have HR := hideT' hR
    have N4 := WholeAt.new w2 false 0 zP
    have hN2 := hN.below hW2 hnl
    have hs2 := hW2.size
    clear hR
    go_wp2_with (first | (refine store_whole rfl (.tmp 4) _ rfl rfl w2.heap.size g2 i r rfl rfl false 0 zP N4 zP_len hr ?_; intro w3 hN3 hg3 hs3))
    have hN23 : NumAt w3 nb g2 k2 p2 j2 q2 := (RowAt.old hN2 (.cells (wholeC false 0 zP) 69)).grown hg3 (by simp; omega)
    have hs3' : w3.heap.size = w2.heap.size + 1 := by rw [hs3]; simp
    have hB3 : Below wr.heap.size wr w3 := (hW2.alloc hs2 _).grown hg3 (by simp; omega) (by intro k hk; cases hk; omega)
    have hik : i ≤ k2 := HR.out.cnt_le HI.out.rp (flo_le HI.out.hg)
    refine HK2.out _ _ ?_
    clear HK2 N4 hN2 hg3 hs3 hW2
    refine wpIn_seq_k fun K3 hK3 => ?_
    have HK3 := hideT' hK3
    clear hK3
    refine wpIn_wide.2 ?_
    refine many_beginT [(8, fun w' => NumAt w' nb g2 k2 p2 j2 q2)] (fun w' => WholeAt w' w2.heap.size g2 i r) (by kernel_rfl) ?_
    refine BL.many_val 0 (some 10) rfl rfl (by kernel_rfl) (by kernel_rfl) (by kernel_rfl) [] (by kernel_rfl) (not8 0 (by decide)) noPanic_put rfl (.pointer (some ⟨nb, 0, none⟩)) (fun _ _ => by go_simp) (late8 hN3 (.inr hN23)) ?_
    simp only [Act.put, List.setIfInBounds_toArray, List.set_cons_zero, List.set_cons_succ]
    refine BL.many_val 1 (some 11) rfl rfl (by kernel_rfl) (by kernel_rfl) (by kernel_rfl) [6, 8] (by kernel_rfl) (not8 1 (by decide)) noPanic_put rfl (.agg (wholeC g2 k2 p2)) (fun _ h => run_mid_whole (.tmp 10) rfl nb 0 rfl g2 k2 p2 (NumAt.whole (h.2 (8, fun w' => NumAt w' nb g2 k2 p2 j2 q2) (List.mem_singleton.2 rfl) (show (8 : Nat) ∈ [6, 8] by decide))) hp2) (late8 hN3 (.inr hN23)) ?_
    simp only [Act.put, List.setIfInBounds_toArray, List.set_cons_zero, List.set_cons_succ]
    refine BL.many_val 2 (some 12) rfl rfl (by kernel_rfl) (by kernel_rfl) (by kernel_rfl) [] (by kernel_rfl) (not8 2 (by decide)) noPanic_put rfl (.agg (wholeC g2 i r)) (fun _ h => run_mid_whole (.tmp 4) rfl w2.heap.size 0 rfl g2 i r (WholeAt.all h.1) hr) (late8 hN3 (.inr hN23)) ?_
    simp only [Act.put, List.setIfInBounds_toArray, List.set_cons_zero, List.set_cons_succ]
    refine BL.many_val 3 (some 13) rfl rfl (by kernel_rfl) (by kernel_rfl) (by kernel_rfl) [] (by kernel_rfl) (not8 3 (by decide)) noPanic_put rfl (.pointer (some ⟨nb, 206, none⟩)) (fun _ _ => by go_simp) (late8 hN3 (.inr hN23)) ?_
    simp only [Act.put, List.setIfInBounds_toArray, List.set_cons_zero, List.set_cons_succ]
    refine BL.many_val 4 (some 14) rfl rfl (by kernel_rfl) (by kernel_rfl) (by kernel_rfl) [5, 6, 8] (by kernel_rfl) (not8 4 (by decide)) noPanic_put rfl (.agg (natC j2 q2)) (fun _ h => run_mid_nat (.tmp 13) rfl nb 206 rfl j2 q2 (NumAt.bottom (h.2 (8, fun w' => NumAt w' nb g2 k2 p2 j2 q2) (List.mem_singleton.2 rfl) (show (8 : Nat) ∈ [5, 6, 8] by decide)) hp2) hq2) (late8 hN3 (.inr hN23)) ?_
    simp only [Act.put, List.setIfInBounds_toArray, List.set_cons_zero, List.set_cons_succ]
    refine many_callT 5 (some 15) (by kernel_rfl) rfl rfl rfl 77 #[.agg (wholeC g2 i r), .agg (natC j2 q2)] (by go_simp) _ (scaled_any g2 w3.drew HR.out HI.out.rq (by have := HI.out.hk; omega) HI.out.hjj) ?_
    rintro e w4 ⟨i4, r4, rfl, hR4, hW4⟩
    have hr4 := hR4.len
    have HR4 := hideT' hR4
    have hs4 : w3.heap.size ≤ w4.heap.size := hW4.size
    have hN34 : WholeAt w4 w2.heap.size g2 i r := RowAt.below (w := w3.drew) hN3 hW4 (RowAt.lt hN3)
    have hN24 : NumAt w4 nb g2 k2 p2 j2 q2 := RowAt.below (w := w3.drew) hN23 hW4 (RowAt.lt hN23)
    have hB4 : Below wr.heap.size wr w4 := hB3.drew.trans (hW4.mono (by show _ ≤ w3.heap.size; omega))
    have hi4 : i4 ≤ 200 := Nat.le_trans (HR.out.mul_used HI.out.rq hR4) (by have := HI.out.hk; have := HI.out.hjj; omega)
    refine ⟨_, rfl, late8 hN34 (.inr hN24), ?_⟩
    clear hR4 hW4
    simp only [Act.put, List.setIfInBounds_toArray, List.set_cons_zero, List.set_cons_succ]
    have hgd : decide (sg g2 N2 < 0) = g2 := by
      cases g2 with
      | false => simp [sg]
      | true => have := HI.out.hg rfl; simp [sg]; omega
    have hab : (sg g2 N2).natAbs = N2 := by cases g2 <;> simp [sg]
    have hless := less_any (k := k2) (j := i4) (p := p2) (q := r4) (sg g2 N2) (sg g2 (flo g2 N2 D2 * D2)) g2 w4 (by rw [hab]; exact HI.out.rp) HR4.out rfl (by have := HI.out.hk; omega) (by omega)
    rw [hgd, rem0_eq HI.out.hd, decide_eq_false (by omega), Int.natAbs_natCast] at hless
    refine many_callT 6 (some 16) (by kernel_rfl) rfl rfl rfl 66 #[.agg (wholeC g2 k2 p2), .agg (wholeC g2 i4 r4)] (by go_simp) _ hless ?_
    rintro e w5 ⟨i5, r5, rfl, hR5, hW5⟩
    have hr5 := hR5.len
    have HR5 := hideT' hR5
    have hs5 : w4.heap.size ≤ w5.heap.size := hW5.size
    have hN35 : WholeAt w5 w2.heap.size g2 i r := RowAt.below hN34 hW5 (RowAt.lt hN34)
    have hN25 : NumAt w5 nb g2 k2 p2 j2 q2 := RowAt.below hN24 hW5 (RowAt.lt hN24)
    have hB5 : Below wr.heap.size wr w5 := hB4.trans (hW5.mono (by omega))
    refine ⟨_, rfl, late8 hN35 (.inr hN25), ?_⟩
    clear hR5 hW5 hless hgd hab
    simp only [Act.put, List.setIfInBounds_toArray, List.set_cons_zero, List.set_cons_succ]
    refine BL.many_val 7 (some 17) rfl rfl (by kernel_rfl) (by kernel_rfl) (by kernel_rfl) [] (by kernel_rfl) (not8 7 (by decide)) noPanic_put rfl (.pointer (some ⟨nb, 0, none⟩)) (fun _ _ => by go_simp) (late8 hN35 (.inr hN25)) ?_
    simp only [Act.put, List.setIfInBounds_toArray, List.set_cons_zero, List.set_cons_succ]
    refine BL.many_one 8 (by kernel_rfl) rfl rfl fun K hK => ?_
    refine store_front_wp (.tmp 17) (.tmp 16) rfl rfl nb false i5 r5 rfl rfl g2 k2 p2 j2 q2 hN25 hp2 hr5 ?_
    intro w6 hN26 hg6 hs6
    have hN36 : WholeAt w6 w2.heap.size g2 i r := RowAt.grown hN35 hg6 (by simp; omega)
    refine hK.out _ _ (late8 hN36 (.inl rfl)) ?_
    refine BL.many_done (by kernel_rfl) ?_ _
    refine NoPanic.normal ?_
    refine HK3.out _ _ ?_
    clear HK3 hK
    gi_wp2
    rename_i KL hKL
    refine wpIn_val (v := .agg (wholeC g2 i r)) (run_mid_whole (.tmp 4) rfl w2.heap.size 0 rfl g2 i r (WholeAt.all hN36) hr) ?_
    have HKL := hideT' hKL
    clear hKL
    refine HKL.out _ _ ?_
    clear HKL
    have hn6 : ¬ V nb := HI.out.nv
    have hVw : ∀ z, V z → z < wr.heap.size := fun z hz => HLT.out _ _ _ HI.out.hj z hz
    have hJ6 : J ys V w6 := HST.out _ _ w5 w6 (some nb) (HST.out _ _ wr w5 none HI.out.hj ⟨hB5.os, hB5.tape, hB5.output, hB5.size, fun k hk _ => hB5.block k hk⟩ (fun r e => by cases e)) hg6 (fun r e => by cases e; exact ⟨hn6, HI.out.wn⟩)
    have HYL := hideT' (HY.out ys (g2, flo g2 N2 D2, i, r) V w6 hJ6 ⟨by
      rw [HI.out.hL]
      unfold trm prT
      exact ⟨_, rfl⟩, HR.out, show i ≤ 100 by have := HI.out.hk; omega⟩)
    gi_wp2
    obtain ⟨fn, tmps, assign, body, hyl, hRd⟩ := HYL.out
    unfold encT at hyl
    simp only at hyl
    rw [hyl]
    clear hyl HYL
    gi_wp2
    refine hRd.mono ?_
    clear hRd
    rintro e W2 hpost
    rcases hpost with ⟨rfl, V2, hJ2, hmo, hke⟩ | ⟨rfl, hF⟩
    · have hN2b : NumAt W2 nb false i5 r5 j2 q2 := hke.row hN26 hn6
      have hV2 : ∀ z, V2 z → z < W2.heap.size := fun z hz => HLT.out _ _ _ hJ2 z hz
      have hn2 : ¬ V2 nb := fun h => by
        rcases hmo nb h with h | h
        · exact hn6 h
        · have := RowAt.lt hN26; omega
      have HJ2 := hideT' hJ2
      have hws : wr.heap.size ≤ W2.heap.size := by have := hke.1; have := hg6.size; omega
      clear hJ2 hmo hke hJ6 hN26 hN36 hN35 hN25 hg6 hs6 hN34 hN24 hN3 hN23
      gi_wp2
      refine wpIn_val (v := .agg (wholeC false i5 r5)) (run_mid_whole (.tmp 23) rfl nb 0 rfl false i5 r5 (NumAt.whole hN2b) hr5) ?_
      gi_wp2
      refine ⟨trivial, ?_⟩
      gi_at_call 78
      refine (callsIn_wide.2 (sign_any false W2)).mono ?_
      rintro e W3 ⟨rfl, hW3⟩
      have hnl3 := RowAt.lt hN2b
      have hN3b := hN2b.below hW3 hnl3
      have hJ3 : J (ys ++ [(g2, flo g2 N2 D2, i, r)]) V2 W3 := HST.out _ _ W2 W3 none HJ2.out ⟨hW3.os, hW3.tape, hW3.output, hW3.size, fun k hk _ => hW3.block k hk⟩ (fun r e => by cases e)
      have hs3b := hW3.size
      by_cases hi5 : i5 = 0
      · have hrem : rem0 g2 N2 D2 = 0 := HR5.out.zero_iff.1 hi5
        have hsg : sgn false i5 = 0 := if_pos hi5
        rw [hsg]
        have HE : Hid (∃ ys U', List.map prT ys = L ∧ J ys U' W3) := by
          refine ⟨_, V2, ?_, hJ3⟩
          rw [HI.out.hL, trm_last hrem, List.map_append]
          rfl
        clear hsg hrem hi5 hJ3
        gi_wp2
        refine bodyPost_ret (v := .tuple #[]) (by first | exact results_none _ _ _ _ | exact results_none rfl _ _ | (simp [results]; done)) rfl ⟨⟨_, rfl⟩, .inl HE.out⟩
      · have hrem : rem0 g2 N2 D2 ≠ 0 := fun h => hi5 (HR5.out.zero_iff.2 h)
        have hsg : sgn false i5 = 1 := by unfold sgn; rw [if_neg hi5]; rfl
        rw [hsg]
        have HRM := hideT' hrem
        have HJ3 := hideT' hJ3
        clear hsg hrem hi5 hJ3
        gi_wp2
        refine HKB.out _ _ ?_
        clear HKB
        have N8 := NumAt.new W3 false 0 zP 0 zP
        have hnv3 : ¬ V2 W3.heap.size := fun h => by have := hV2 _ h; omega
        refine wpIn_wide.2 ?_
        go_wp2_with (first | (refine load_num rfl (.tmp 3) rfl nb rfl false i5 r5 j2 q2 hN3b hr5 hq2 ?_) | (refine store_num rfl (.tmp 3) _ rfl rfl W3.heap.size false i5 r5 j2 q2 rfl rfl false 0 zP 0 zP N8 zP_len zP_len hr5 hq2 ?_; intro w8 hN8 hg8 hs8) | (refine load_num rfl (.tmp 3) rfl W3.heap.size rfl false i5 r5 j2 q2 hN8 hr5 hq2 ?_))
        have hs8' : w8.heap.size = W3.heap.size + 1 := by rw [hs8]; simp
        have hJ8 := HST.out _ _ _ w8 (some W3.heap.size) (HST.out _ _ W3 _ none HJ3.out (alloc_grownT W3 (.cells (numC false 0 zP 0 zP) 71) none) (fun r e => by cases e)) hg8 (fun r e => by cases e; exact ⟨hnv3, by have := HI.out.wn; omega⟩)
        have HJ8 := hideT' hJ8
        clear hJ8 hg8 hs8 N8
        refine (turned_any false w8 hr5 hq2).mono ?_
        rintro e w9 ⟨rfl, hW9⟩
        have hN9 := RowAt.below hN8 hW9 (RowAt.lt hN8)
        have hJ9 := HST.out _ _ w8 w9 none HJ8.out ⟨hW9.os, hW9.tape, hW9.output, hW9.size, fun k hk _ => hW9.block k hk⟩ (fun r e => by cases e)
        have HJ9 := hideT' hJ9
        clear hJ9 hW9
        go_wp2_with (first | (refine store_num rfl (.tmp 3) _ rfl rfl W3.heap.size false j2 q2 i5 r5 rfl rfl false i5 r5 j2 q2 hN9 hr5 hq2 hq2 hr5 ?_; intro w10 hN10 hg10 hs10))
        have hJ10 := HST.out _ _ w9 w10 (some W3.heap.size) HJ9.out hg10 (fun r e => by cases e; exact ⟨hnv3, by have := HI.out.wn; omega⟩)
        have hlt := rem0_lt (g := g2) (n := N2) HI.out.hd
        have HIt : Hid (ItS J L W (ys ++ [(g2, flo g2 N2 D2, i, r)]) V2 W3.heap.size false D2 (rem0 g2 N2 D2) j2 i5 q2 r5 w10) :=
          ⟨hJ10, hnv3, by have := HI.out.wn; omega, hN10, HI.out.rq, HR5.out, HI.out.hjj, Nat.le_trans (HR5.out.cnt_le HI.out.rq (Nat.le_of_lt hlt)) HI.out.hjj, HRM.out, fun h => (by cases h), by rw [HI.out.hL, trm_next HRM.out, List.map_append, List.append_assoc]; rfl⟩
        clear hJ10
        gi_roundg (rem0 g2 N2 D2)
        case measure => rw [HG.out]; exact hlt
        case rel => exact ⟨W3.heap.size, _, V2, false, D2, rem0 g2 N2 D2, j2, i5, q2, r5, rfl, rfl, HIt.out⟩
    · gi_wp2
      refine ⟨trivial, ?_⟩
      gi_wp2
      refine bodyPost_ret (v := .tuple #[]) (by first | exact results_none _ _ _ _ | exact results_none rfl _ _ | (simp [results]; done)) rfl ⟨⟨_, rfl⟩, .inr hF⟩
end Go.Proofs.YthbnacikomimfaaDoor
