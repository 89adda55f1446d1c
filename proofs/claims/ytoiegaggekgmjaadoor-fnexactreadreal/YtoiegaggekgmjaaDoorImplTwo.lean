/-
  What float and twoTo of impl answer, and its guess of an Exp.
-/
import Derived.Test.YtoiegaggekgmjaaDoorFrexp
import Derived.Test.YtoiegaggekgmjaaDoorTimesWide
import Derived.Test.YtoiegaggekgmjaaDoorPkHeld
import Derived.Test.YtoiegaggekgmjaaDoorRealMath
namespace Go.Proofs.YtoiegaggekgmjaaDoor
open Go.RowKit
set_option linter.unusedVariables false

set_option maxHeartbeats 1000000 in
set_option maxRecDepth 100000 in
theorem float_any {n k : Nat} {p : List Int} (w : World) (hP : Rep n k p) (hk : k ≤ 204) :
    Calls Tryd.prog 47 #[.agg (natC k p)] w fun e w' => (∃ x : Nat, e = .returned (.float .f64 x)) ∧ Below w.heap.size w w' := by
  have hp := hP.len
  have A := NatAt.new w k p
  have hB : Below w.heap.size w (w.alloc (.cells (natC k p) 33)) := (Below.refl _ _).alloc (Nat.le_refl _) _
  have a0 := A.c0
  obtain ⟨f1, g1, h1, H1⟩ := farith_run .mul (by simp)
  obtain ⟨f2, g2, h2, H2⟩ := farith_run .add (by simp)
  have HH := hideT' (And.intro H1 H2)
  have hg1 : ∀ x y w a, (g1 x y w).cell? a = w.cell? a := fun x y w a => drawn_cell (H1 x y w) a
  clear hP H1 H2
  go_enter Tryd.func47, Tryd.ntmps47
  go_wp2
  go_loopg [3, 4] k (fun g s i wr => g ≤ k ∧ (∃ x : Nat, s = .float .f64 x) ∧ i = .int .i64 ((g : Int) - 1) ∧ NatAt wr w.heap.size k p ∧ Below w.heap.size w wr)
  case atStart => exact ⟨Nat.le_refl _, ⟨_, rfl⟩, rfl, A, hB⟩
  case round =>
    obtain ⟨hg, ⟨x, rfl⟩, rfl, hA, hW⟩ := hrel
    clear A hB a0
    cases gk with
    | zero =>
      go_wp2
      go_ret
      exact ⟨⟨_, rfl⟩, hW⟩
    | succ j =>
      have a1 := hA.cs j (by omega)
      have hj1 : (j : Int) < 204 := by omega
      go_wp2
      go_roundg j
      case measure => omega
      case rel =>
        refine ⟨by omega, ⟨_, rfl⟩, rfl, ?_, ?_⟩
        · exact (hA.below (drawn_below (HH.out.1 _ _ _) (Below.refl (wr.heap.size) wr)) hA.lt).below (drawn_below (HH.out.2 _ _ _) (Below.refl (wr.heap.size) _)) hA.lt
        · exact drawn_below (HH.out.2 _ _ _) (drawn_below (HH.out.1 _ _ _) hW)
/-! guessExp -/
/-- An operation on floats that may be drawn. -/
theorem held_arith {ops : Array Oper} {Q : Exit → Act → World → Prop} {md : Region.Mode} {S : World → Prop} {o : Oper} {fuel : Nat} {listed : Array Bool} {a : Act} {w : World} (i : Nat) (d : Option Tmp) (hr : Region.ready md ops listed = [i]) (hi : ops[i]? = some o) (hw : Region.wanted o (yielded ops a.tmps) = true) (hd : o.dst = d) (op : BinOp) (hop : op = .mul ∨ op = .add ∨ op = .quo)
    (x y : Operand) (t : TypeId) (ho : o.op = .binOp op 74 x y t) (m n : Nat) (hx : a.eval x = .float .f64 m) (hy : a.eval y = .float .f64 n)
    (h : ∀ r w', (w' = w ∨ w' = w.drew) → S w' ∧ wpAnyH Tryd.prog md ops Q S fuel (listed.setIfInBounds i true) (a.put d (.float .f64 r)) w') : wpAnyH Tryd.prog md ops Q S (fuel + 1) listed a w := by
  refine wpAnyH_ready hr (by simp) (AllReadyH.cons hi (fun K hK => ?_) AllReadyH.nil)
  rw [if_pos hw]
  obtain ⟨r, w', h1, h2⟩ := farith_one op hop m n w
  have he : (execOp a.eval o).run Tryd.prog w = .ok (.value (.float .f64 r)) w' := by
    unfold execOp
    simp only [ho, hx, hy]
    rcases hop with rfl | rfl | rfl <;> simp [eqGuard, h1]
  unfold Oper.wp
  rw [he]
  simp only [Oper.upon]
  obtain ⟨h3, h4⟩ := h r w' h2
  subst hd
  exact hK.out _ _ h3 (fun _ => h4)

set_option maxHeartbeats 2000000 in
set_option maxRecDepth 100000 in
theorem guessExp_any {n m k j : Nat} {p q : List Int} (w : World) (hP : Rep n k p) (hQ : Rep m j q) (hk : k ≤ 204) (hj : j ≤ 204) :
    Calls Tryd.prog 26 #[.agg (natC k p), .agg (natC j q)] w fun e w' => (∃ z : Int, e = .returned (.int .i64 z) ∧ -150 ≤ z ∧ z ≤ 972) ∧ Below w.heap.size w w' := by
  have hp := hP.len
  have hq := hQ.len
  have A := (NatAt.new w k p).old (.cells (natC j q) 33)
  have B := NatAt.new (w.alloc (.cells (natC k p) 33)) j q
  have hB : Below w.heap.size w ((w.alloc (.cells (natC k p) 33)).alloc (.cells (natC j q) 33)) := ((Below.refl _ _).alloc (Nat.le_refl _) _).alloc (by simp) _
  simp only [World.size_alloc] at B
  have HP := hide (And.intro hP hQ)
  clear hP hQ
  go_enter Tryd.func26, Tryd.ntmps26
  go_wp2_with fail
  have hws : w.heap.size + 1 + 1 = ((w.alloc (.cells (natC k p) 33)).alloc (.cells (natC j q) 33)).heap.size := by simp
  generalize hw0 : (w.alloc (.cells (natC k p) 33)).alloc (.cells (natC j q) 33) = w0 at A B hB hws ⊢
  clear hw0
  refine held_begin (fun w' => NatAt w' w.heap.size k p ∧ NatAt w' (w.heap.size + 1) j q) (by kernel_rfl) ?_
  have hS : NatAt w0.drew w.heap.size k p ∧ NatAt w0.drew (w.heap.size + 1) j q := ⟨A, B⟩
  refine held_load 0 (some 8) rfl rfl (by kernel_rfl) (by kernel_rfl) (by kernel_rfl) noPanic_put rfl _ rfl (w.heap.size) rfl k p (fun _ h => h.1) hp hS ?_
  simp only [Act.put, List.setIfInBounds_toArray, List.set_cons_zero, List.set_cons_succ]
  refine held_load 2 (some 10) rfl rfl (by kernel_rfl) (by kernel_rfl) (by kernel_rfl) noPanic_put rfl _ rfl (w.heap.size + 1) rfl j q (fun _ h => h.2) hq hS ?_
  simp only [Act.put, List.setIfInBounds_toArray, List.set_cons_zero, List.set_cons_succ]
  refine held_call 1 (some 9) (by kernel_rfl) rfl rfl rfl 47 #[.agg (natC k p)] (by go_simp) _ (float_any w0.drew HP.out.1 hk) ?_
  rintro e w1 ⟨⟨x1, rfl⟩, hW1⟩
  have hs1 : w0.heap.size ≤ w1.heap.size := hW1.size
  have hS1 : NatAt w1 w.heap.size k p ∧ NatAt w1 (w.heap.size + 1) j q := ⟨hS.1.below hW1 (by show _ < w0.heap.size; omega), hS.2.below hW1 (by show _ < w0.heap.size; omega)⟩
  have hB1 : Below w.heap.size w w1 := hB.drew.trans (hW1.mono (by show _ ≤ w0.heap.size; omega))
  refine ⟨_, rfl, hS1, ?_⟩
  simp only [Act.put, List.setIfInBounds_toArray, List.set_cons_zero, List.set_cons_succ]
  refine held_call 3 (some 11) (by kernel_rfl) rfl rfl rfl 47 #[.agg (natC j q)] (by go_simp) _ (float_any w1 HP.out.2 hj) ?_
  rintro e w2 ⟨⟨x2, rfl⟩, hW2⟩
  have hs2 : w1.heap.size ≤ w2.heap.size := hW2.size
  have hS2 : NatAt w2 w.heap.size k p ∧ NatAt w2 (w.heap.size + 1) j q := ⟨hS1.1.below hW2 (by omega), hS1.2.below hW2 (by omega)⟩
  have hB2 : Below w.heap.size w w2 := hB1.trans (hW2.mono (by omega))
  refine ⟨_, rfl, hS2, ?_⟩
  simp only [Act.put, List.setIfInBounds_toArray, List.set_cons_zero, List.set_cons_succ]
  refine held_arith 4 (some 12) (by kernel_rfl) rfl rfl rfl .quo (by simp) _ _ _ rfl x1 x2 rfl rfl ?_
  intro x3 w3 hw3
  have hS3 : NatAt w3 w.heap.size k p ∧ NatAt w3 (w.heap.size + 1) j q := by rcases hw3 with rfl | rfl <;> exact hS2
  have hB3 : Below w.heap.size w w3 := drawn_below hw3 hB2
  have hs3 : w2.heap.size = w3.heap.size := by rw [drawn_heap hw3]
  refine ⟨hS3, ?_⟩
  simp only [Act.put, List.setIfInBounds_toArray, List.set_cons_zero, List.set_cons_succ]
  refine held_call 5 (some 13) (by kernel_rfl) rfl rfl rfl 46 #[.float .f64 x3] (by go_simp) _ (frexp_any x3 w3) ?_
  rintro e w4 ⟨⟨x4, z, hz, rfl⟩, hw4⟩
  have hS4 : NatAt w4 w.heap.size k p ∧ NatAt w4 (w.heap.size + 1) j q := by rcases hw4 with rfl | rfl <;> exact hS3
  have hB4 : Below w.heap.size w w4 := drawn_below hw4 hB3
  refine ⟨_, rfl, hS4, ?_⟩
  simp only [Act.put, List.setIfInBounds_toArray, List.set_cons_zero, List.set_cons_succ]
  refine held_val 6 (some 7) rfl rfl (by kernel_rfl) (by kernel_rfl) (by kernel_rfl) noPanic_put rfl (.tuple #[.float .f64 x4, .int .i64 z]) (fun _ => by go_simp) hS4 ?_
  simp only [Act.put, List.setIfInBounds_toArray, List.set_cons_zero, List.set_cons_succ]
  refine held_val 7 (some 14) rfl rfl (by kernel_rfl) (by kernel_rfl) (by kernel_rfl) noPanic_put rfl (.float .f64 x4) (fun _ => by go_simp) hS4 ?_
  simp only [Act.put, List.setIfInBounds_toArray, List.set_cons_zero, List.set_cons_succ]
  refine held_val 8 (some 15) rfl rfl (by kernel_rfl) (by kernel_rfl) (by kernel_rfl) noPanic_put rfl (.int .i64 z) (fun _ => by go_simp) hS4 ?_
  simp only [Act.put, List.setIfInBounds_toArray, List.set_cons_zero, List.set_cons_succ]
  refine held_assign 9 (some 5) (by kernel_rfl) rfl rfl _ rfl rfl (.float .f64 x4) rfl hS4 ?_
  simp only [Act.put, List.setIfInBounds_toArray, List.set_cons_zero, List.set_cons_succ]
  refine held_assign 10 (some 6) (by kernel_rfl) rfl rfl _ rfl rfl (.int .i64 z) rfl hS4 ?_
  simp only [Act.put, List.setIfInBounds_toArray, List.set_cons_zero, List.set_cons_succ]
  refine wpAnyH_done (by kernel_rfl) ?_ _
  refine NoPanic.normal ?_
  have hz1 := hz.1
  have hz2 := hz.2
  clear hS hS1 hS2 hS3 hS4 hW1 hW2 hw3 hw4 hz A B hB hB1 hB2 hB3
  go_wp2
  all_goals
    go_ret
    exact ⟨⟨_, rfl, by omega, by omega⟩, hB4⟩
end Go.Proofs.YtoiegaggekgmjaaDoor
