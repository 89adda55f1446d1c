/-
  What the model's collecting answers.
-/
import Derived.Test.YtoaancgmahdbnaaSpecMove
import Derived.Test.YtoaancgmahdbnaaSpecKeep
import Derived.Test.YtoaancgmahdbnaaRoundHeld
namespace Go.Proofs.Ytoaancgmahdbnaa
open Go.RowKit BL
set_option linter.unusedVariables false

/-- What is left of a heap, in new memory. -/
def MovC (m : Hp) (ms : List Bool) (w : World) (e : Ending) (w' : World) : Prop :=
  (∃ u1 u2, e = .returned (.agg #[.int .i64 (moveM m ms).old, u1, u2]) ∧ OwnR w' w.heap.size u1 59 cellL 4 (moveM m ms).cells ∧ OwnR w' w.heap.size u2 3 intL 1 (moveM m ms).roots) ∧ Below w.heap.size w w'

set_option maxHeartbeats 4000000 in
set_option maxRecDepth 100000 in
theorem l7Collect_any (m : Hp) (hok : hpOk m = true) (v1 v2 : Value) (w : World) (hM : HpRd w v1 v2 m) :
    Calls Try.prog 69 #[.agg #[.int .i64 m.old, v1, v2]] w fun e w' => MovC m (reachM m 0) w e w' := by
  obtain ⟨hl1, hl2, hold, _, _⟩ := hpOk_all hok
  obtain ⟨o1, c1, e1, x1⟩ := hM.1
  obtain ⟨o2, c2, e2, x2⟩ := hM.2
  have HM := hideT' hM
  clear x1 x2
  subst e1 e2
  have hz := zero_hp.1
  obtain ⟨wA, hwA⟩ : ∃ wA, wA = (w.alloc (.cells #[.int .i64 m.old, .slice o1 m.cells.length c1, .slice o2 m.roots.length c2] 48)).alloc (.cells #[.int .i64 0, .slice none 0 0, .slice none 0 0] 48) := ⟨_, rfl⟩
  have hBA : Below w.heap.size w wA := by rw [hwA]; exact ((Below.refl _ w).alloc (Nat.le_refl _) _).alloc (by simp) _
  have hsA : wA.heap.size = w.heap.size + 2 := by rw [hwA]; simp
  have hRA : RowAt wA w.heap.size 48 #[.int .i64 m.old, .slice o1 m.cells.length c1, .slice o2 m.roots.length c2] := by rw [hwA]; exact RowAt.old (RowAt.new _ _ _) _
  have hXA : RowAt wA (w.heap.size + 1) 48 #[.int .i64 0, .slice none 0 0, .slice none 0 0] := by
    rw [hwA]
    have := RowAt.new (w.alloc (.cells #[.int .i64 m.old, .slice o1 m.cells.length c1, .slice o2 m.roots.length c2] 48)) 48 #[.int .i64 0, .slice none 0 0, .slice none 0 0]
    rwa [World.size_alloc] at this
  have HWA := hideT' hwA
  have HOK := hideT' hok
  have HA := hideT' (And.intro hRA (And.intro hXA hBA))
  have hc1 : wA.cell? ⟨w.heap.size, 1, none⟩ = some (.slice o1 m.cells.length c1) := by rw [cell_of_row wA _ _ _ _ _ hRA]; rfl
  clear hM hwA hXA hBA hRA hok
  go_enter Try.func69, Try.ntmps69
  go_wp2_with fail
  rw [← HWA.out]
  obtain ⟨hRA, hXA, hBA⟩ := HA.out
  have hS : RowAt wA.drew w.heap.size 48 #[.int .i64 m.old, .slice o1 m.cells.length c1, .slice o2 m.roots.length c2] := hRA
  refine held_begin (fun w' => RowAt w' w.heap.size 48 #[.int .i64 m.old, .slice o1 m.cells.length c1, .slice o2 m.roots.length c2]) (by kernel_rfl) ?_
  refine held_valS 0 (some 3) rfl rfl (by kernel_rfl) (by kernel_rfl) (by kernel_rfl) noPanic_put rfl (.agg #[.int .i64 m.old, .slice o1 m.cells.length c1, .slice o2 m.roots.length c2]) (fun w' h => run_loadRow (.tmp 1) 48 rfl w.heap.size rfl _ _ h Try.underlying48 zero_hp.2) hS ?_
  simp only [Act.put, List.setIfInBounds_toArray, List.set_cons_zero, List.set_cons_succ]
  refine held_valS 1 (some 4) rfl rfl (by kernel_rfl) (by kernel_rfl) (by kernel_rfl) noPanic_put rfl (.agg #[.int .i64 m.old, .slice o1 m.cells.length c1, .slice o2 m.roots.length c2]) (fun w' h => run_loadRow (.tmp 1) 48 rfl w.heap.size rfl _ _ h Try.underlying48 zero_hp.2) hS ?_
  simp only [Act.put, List.setIfInBounds_toArray, List.set_cons_zero, List.set_cons_succ]
  refine held_val 2 (some 5) rfl rfl (by kernel_rfl) (by kernel_rfl) (by kernel_rfl) noPanic_put rfl (.pointer (some ⟨w.heap.size, 1, none⟩)) (fun _ => by go_simp) hS ?_
  simp only [Act.put, List.setIfInBounds_toArray, List.set_cons_zero, List.set_cons_succ]
  refine held_valS 3 (some 6) rfl rfl (by kernel_rfl) (by kernel_rfl) (by kernel_rfl) noPanic_put rfl (.slice o1 m.cells.length c1) (fun w' h => run_cell1 (.tmp 5) 28 rfl ⟨w.heap.size, 1, none⟩ rfl _ Try.underlying28 rfl (by rw [cell_of_row w' _ _ _ _ _ h]; rfl)) hS ?_
  simp only [Act.put, List.setIfInBounds_toArray, List.set_cons_zero, List.set_cons_succ]
  refine held_val 4 (some 7) rfl rfl (by kernel_rfl) (by kernel_rfl) (by kernel_rfl) noPanic_put rfl (.int .i64 (m.cells.length : Int)) (fun _ => by go_simp) hS ?_
  simp only [Act.put, List.setIfInBounds_toArray, List.set_cons_zero, List.set_cons_succ]
  refine held_ready 5 (some 8) (by kernel_rfl) rfl rfl rfl (.slice (some ⟨wA.heap.size, 0, none⟩) m.cells.length m.cells.length) _ (run_make1 69 (.tmp 7) (.tmp 7) rfl _ _ _ rfl rfl (make_bool m.cells.length (by omega) wA.drew)) (RowAt.old hS _) ?_
  simp only [Act.put, List.setIfInBounds_toArray, List.set_cons_zero, List.set_cons_succ]
  obtain ⟨w2, hw2⟩ : ∃ w2, w2 = wA.drew.alloc (.cells ((List.replicate m.cells.length false).flatMap boolL).toArray 4) := ⟨_, rfl⟩
  have hDM : RecAt w2 wA.heap.size 4 boolL (firstM m.cells.length 0) := by rw [hw2]; exact RowAt.new wA.drew _ _
  have hBW2 : Below wA.heap.size wA w2 := by rw [hw2]; exact ((Below.refl _ _).drew).alloc (Nat.le_refl _) _
  have hBW := hBA.trans (hBW2.mono (by omega))
  have hRW := hRA.below hBW2 (by omega)
  have hXW := hXA.below hBW2 (by omega)
  have hsW : w2.heap.size = wA.heap.size + 1 := by rw [hw2]; simp
  have hmbw : w.heap.size ≤ wA.heap.size := by omega
  have hap1 : ∀ b, w.heap.size ≤ b → Apart (.slice o1 m.cells.length c1) b := fun b hb => HM.out.1.apart hb
  have hap2 : ∀ b, w.heap.size ≤ b → Apart (.slice o2 m.roots.length c2) b := fun b hb => HM.out.2.apart hb
  have hmsl : (firstM m.cells.length 0).length = m.cells.length := firstM_len (Nat.zero_le _)
  rw [← hw2]
  clear hw2
  have hke := l7Keep_any m HOK.out _ _ wA.heap.size (firstM m.cells.length 0) w2 (HM.out.below hBW) (hap1 _ hmbw) (hap2 _ hmbw) hmsl hDM
  rw [show slR wA.heap.size (firstM m.cells.length 0) = .slice (some ⟨wA.heap.size, 0, none⟩) m.cells.length m.cells.length by rw [slR, hmsl]] at hke
  refine held_call 6 (some 9) (by kernel_rfl) rfl rfl rfl 67 #[.agg #[.int .i64 m.old, .slice o1 m.cells.length c1, .slice o2 m.roots.length c2], .slice (some ⟨wA.heap.size, 0, none⟩) m.cells.length m.cells.length] (by go_simp) _ hke ?_
  rintro e w3 ⟨rfl, hD3, hg3⟩
  have hB3 : Below w.heap.size w w3 := hBW.grown hg3 hBW.size (fun k hk => by cases hk; exact hmbw)
  have hR3 := hRW.grown hg3 (by intro e; injection e; omega)
  have hX3 := hXW.grown hg3 (by intro e; injection e; omega)
  have hs3 : w2.heap.size ≤ w3.heap.size := hg3.size
  refine ⟨_, rfl, hR3, ?_⟩
  simp only [Act.put, List.setIfInBounds_toArray, List.set_cons_zero, List.set_cons_succ]
  have hD3' : RecAt w3 wA.heap.size 4 boolL (reachM m 0) := by rw [show reachM m 0 = _ from rfl]; exact hD3
  have hmo := l7Move_any m HOK.out (reachM m 0) (reachM_len (Nat.zero_le _)) _ _ wA.heap.size w3 (HM.out.below hB3) hD3'
  rw [show slR wA.heap.size (reachM m 0) = .slice (some ⟨wA.heap.size, 0, none⟩) m.cells.length m.cells.length by rw [slR, reachM_len (Nat.zero_le _)]] at hmo
  refine held_call 7 (some 10) (by kernel_rfl) rfl rfl rfl 84 #[.agg #[.int .i64 m.old, .slice o1 m.cells.length c1, .slice o2 m.roots.length c2], .slice (some ⟨wA.heap.size, 0, none⟩) m.cells.length m.cells.length] (by go_simp) _ hmo ?_
  rintro e w4 ⟨⟨u1, u2, rfl, hO1, hO2⟩, hB4⟩
  obtain ⟨p1, q1, hv1⟩ := own_formX hO1
  obtain ⟨p2, q2, hv2⟩ := own_formX hO2
  subst hv1 hv2
  have hs4 := hB4.size
  have hR4 := hR3.below hB4 (by omega)
  have hX4 := hX3.below hB4 (by omega)
  have hB4' := hB3.trans (hB4.mono (by omega))
  refine ⟨_, rfl, hR4, ?_⟩
  simp only [Act.put, List.setIfInBounds_toArray, List.set_cons_zero, List.set_cons_succ]
  refine held_step 8 (by kernel_rfl) rfl rfl fun K hK => ?_
  refine wp_store_row 48 _ _ rfl (w.heap.size + 1) #[.int .i64 (moveM m (reachM m 0)).old, .slice p1 (moveM m (reachM m 0)).cells.length q1, .slice p2 (moveM m (reachM m 0)).roots.length q2] rfl rfl 48 _ hX4 zero_hp.2 rfl (hp_one _ _ _ _ _ _ _) ?_
  obtain ⟨w5, hw5⟩ : ∃ w5, w5 = w4.setRow (w.heap.size + 1) #[.int .i64 (moveM m (reachM m 0)).old, .slice p1 (moveM m (reachM m 0)).cells.length q1, .slice p2 (moveM m (reachM m 0)).roots.length q2] := ⟨_, rfl⟩
  have hg5 : w4.grownBy w5 (some (w.heap.size + 1)) := by rw [hw5]; exact ⟨rfl, rfl, rfl, by simp, fun k _ hne => setRow_other w4 (w.heap.size + 1) k _ (by intro e; exact hne (by rw [e]))⟩
  have hX5 : RowAt w5 (w.heap.size + 1) 48 #[.int .i64 (moveM m (reachM m 0)).old, .slice p1 (moveM m (reachM m 0)).cells.length q1, .slice p2 (moveM m (reachM m 0)).roots.length q2] := by rw [hw5]; exact setRow_heap _ _ _ _ _ _ hX4
  rw [← hw5]
  refine hK.out _ _ (hR4.grown hg5 (by intro e; injection e; omega)) ?_
  refine wpAnyH_done (by kernel_rfl) ?_ _
  refine NoPanic.normal ?_
  have HF : Hid ((w5.ownsRow w.heap.size 59 4 (.slice p1 (moveM m (reachM m 0)).cells.length q1) (moveM m (reachM m 0)).cells.length ((moveM m (reachM m 0)).cells.flatMap cellL) ∧ w5.ownsRow w.heap.size 3 1 (.slice p2 (moveM m (reachM m 0)).roots.length q2) (moveM m (reachM m 0)).roots.length ((moveM m (reachM m 0)).roots.flatMap intL)) ∧ Below w.heap.size w w5) := by
    refine ⟨⟨own_baseX (hO1.kept hg5 (.inr (fun e => by have := (hO1.lt _ e).1; omega))) (by omega), own_baseX (hO2.kept hg5 (.inr (fun e => by have := (hO2.lt _ e).1; omega))) (by omega)⟩, hB4'.grown hg5 hB4'.size (fun k e => by cases e; omega)⟩
  clear hw5 hg5 hR3 hX3 hD3 hD3' hmo hke hO1 hO2 hR4 hX4
  go_wp2_with fail
  exact bodyPost_ret (v := .agg #[.int .i64 (moveM m (reachM m 0)).old, .slice p1 (moveM m (reachM m 0)).cells.length q1, .slice p2 (moveM m (reachM m 0)).roots.length q2]) (results_cell_row Try.results69 _ _ (w.heap.size + 1) 48 _ (0, 0) _ rfl hX5 Try.underlying48 rfl zero_hp.2) rfl ⟨⟨_, _, rfl, HF.out.1.1, HF.out.1.2⟩, HF.out.2⟩

set_option maxHeartbeats 4000000 in
set_option maxRecDepth 100000 in
theorem l7Minor_any (m : Hp) (hok : hpOk m = true) (v1 v2 : Value) (w : World) (hM : HpRd w v1 v2 m) :
    Calls Try.prog 72 #[.agg #[.int .i64 m.old, v1, v2]] w fun e w' => MovC m (reachM m m.old.toNat) w e w' := by
  obtain ⟨hl1, hl2, hold, _, _⟩ := hpOk_all hok
  obtain ⟨o1, c1, e1, x1⟩ := hM.1
  obtain ⟨o2, c2, e2, x2⟩ := hM.2
  have HM := hideT' hM
  clear x1 x2
  subst e1 e2
  have hz := zero_hp.1
  obtain ⟨wA, hwA⟩ : ∃ wA, wA = (w.alloc (.cells #[.int .i64 m.old, .slice o1 m.cells.length c1, .slice o2 m.roots.length c2] 48)).alloc (.cells #[.int .i64 0, .slice none 0 0, .slice none 0 0] 48) := ⟨_, rfl⟩
  have hBA : Below w.heap.size w wA := by rw [hwA]; exact ((Below.refl _ w).alloc (Nat.le_refl _) _).alloc (by simp) _
  have hsA : wA.heap.size = w.heap.size + 2 := by rw [hwA]; simp
  have hRA : RowAt wA w.heap.size 48 #[.int .i64 m.old, .slice o1 m.cells.length c1, .slice o2 m.roots.length c2] := by rw [hwA]; exact RowAt.old (RowAt.new _ _ _) _
  have hXA : RowAt wA (w.heap.size + 1) 48 #[.int .i64 0, .slice none 0 0, .slice none 0 0] := by
    rw [hwA]
    have := RowAt.new (w.alloc (.cells #[.int .i64 m.old, .slice o1 m.cells.length c1, .slice o2 m.roots.length c2] 48)) 48 #[.int .i64 0, .slice none 0 0, .slice none 0 0]
    rwa [World.size_alloc] at this
  have HWA := hideT' hwA
  have HOK := hideT' hok
  obtain ⟨od, hod⟩ : ∃ od : Nat, m.old = (od : Int) := ⟨m.old.toNat, by omega⟩
  have hodn : m.old.toNat = od := by omega
  have hodl : od ≤ m.cells.length := by omega
  rw [hodn]
  have hmk := make_bool m.cells.length (by omega)
  obtain ⟨wB, hwB⟩ : ∃ wB, wB = wA.alloc (.cells ((List.replicate m.cells.length false).flatMap boolL).toArray 4) := ⟨_, rfl⟩
  have hBB : Below wA.heap.size wA wB := by rw [hwB]; exact (Below.refl _ _).alloc (Nat.le_refl _) _
  have hDB : RecAt wB wA.heap.size 4 boolL (firstM m.cells.length 0) := by rw [hwB]; exact RowAt.new wA _ _
  have hsB : wB.heap.size = w.heap.size + 3 := by rw [hwB]; simp; omega
  have HB0 := hideT' (And.intro (hRA.below hBB (by omega)) (And.intro (hXA.below hBB (by omega)) (And.intro hDB (hBA.trans (hBB.mono (by omega))))))
  have HWB := hideT' hwB
  have HSA := hideT' hsA
  have HOD := hideT' hod
  have hc1 : wA.cell? ⟨w.heap.size, 1, none⟩ = some (.slice o1 m.cells.length c1) := by rw [cell_of_row wA _ _ _ _ _ hRA]; rfl
  clear hM hwA hwB hXA hBA hRA hBB hDB hsA hod hodn hold hok
  go_enter Try.func72, Try.ntmps72
  go_wp2_with fail
  rw [← HWA.out, ← HWB.out]
  clear hmk hc1
  go_loopg [4] od (fun g i wr => ∃ k : Nat, g = od - k ∧ k ≤ od ∧ i = .int .i64 (k : Int) ∧ RowAt wr w.heap.size 48 #[.int .i64 m.old, .slice o1 m.cells.length c1, .slice o2 m.roots.length c2] ∧ RowAt wr (w.heap.size + 1) 48 #[.int .i64 0, .slice none 0 0, .slice none 0 0] ∧ RecAt wr (w.heap.size + 2) 4 boolL (firstM m.cells.length k) ∧ Below w.heap.size w wr)
  case atStart => exact ⟨0, rfl, by omega, by go_num, HB0.out.1, HB0.out.2.1, by have := HB0.out.2.2.1; rwa [HSA.out] at this, HB0.out.2.2.2⟩
  case round =>
    obtain ⟨k, hg, hk, rfl, hR, hX, hD, hW⟩ := hrel
    have hsr := RowAt.lt hX
    have f0 : wr.cell? ⟨w.heap.size, 0, none⟩ = some (.int .i64 (od : Int)) := by rw [cell_of_row wr _ _ _ _ _ hR, ← HOD.out]; rfl
    by_cases hlt : (k : Int) < (od : Int)
    · have hkn : (k : Int) < (m.cells.length : Int) := by omega
      have HFS : Hid ((firstM m.cells.length k).set k true = firstM m.cells.length (k + 1)) := firstM_set (by omega)
      have HLN : Hid ((firstM m.cells.length k).length = m.cells.length) := firstM_len (by omega)
      go_wp2_with (refine store_rec1 rfl 4 _ _ rfl rfl (fun x : Bool => .bool x) (fun _ => rfl) size1_bool (w.heap.size + 2) k true rfl rfl _ hD (by rw [HLN.out]; omega) ?_; intro w3 hD3 hg3 hs3)
      go_roundg (od - (k + 1))
      case measure => omega
      case rel => exact ⟨k + 1, rfl, by omega, by go_num, hR.grown hg3 (by intro e; injection e; omega), hX.grown hg3 (by intro e; injection e; omega), by rw [← HFS.out]; exact hD3, hW.grown hg3 hW.size (fun j e => by cases e; omega)⟩
    · have hko : k = od := by omega
      subst hko
      have HX := hideT' (And.intro hR (And.intro hX (And.intro hD hW)))
      clear hR hX hD hW
      go_wp2_with fail
      obtain ⟨hRW, hXW, hDM, hBW⟩ := HX.out
      have hmbw : w.heap.size ≤ w.heap.size + 2 := by omega
      have hap1 : ∀ b, w.heap.size ≤ b → Apart (.slice o1 m.cells.length c1) b := fun b hb => HM.out.1.apart hb
      have hap2 : ∀ b, w.heap.size ≤ b → Apart (.slice o2 m.roots.length c2) b := fun b hb => HM.out.2.apart hb
      have hmsl : (firstM m.cells.length k).length = m.cells.length := firstM_len hodl
      have hS : RowAt wr.drew w.heap.size 48 #[.int .i64 m.old, .slice o1 m.cells.length c1, .slice o2 m.roots.length c2] := hRW
      refine held_begin (fun w' => RowAt w' w.heap.size 48 #[.int .i64 m.old, .slice o1 m.cells.length c1, .slice o2 m.roots.length c2]) (by kernel_rfl) ?_
      refine held_valS 0 (some 18) rfl rfl (by kernel_rfl) (by kernel_rfl) (by kernel_rfl) noPanic_put rfl (.agg #[.int .i64 m.old, .slice o1 m.cells.length c1, .slice o2 m.roots.length c2]) (fun w' h => run_loadRow (.tmp 1) 48 rfl w.heap.size rfl _ _ h Try.underlying48 zero_hp.2) hS ?_
      simp only [Act.put, List.setIfInBounds_toArray, List.set_cons_zero, List.set_cons_succ]
      refine held_valS 1 (some 19) rfl rfl (by kernel_rfl) (by kernel_rfl) (by kernel_rfl) noPanic_put rfl (.agg #[.int .i64 m.old, .slice o1 m.cells.length c1, .slice o2 m.roots.length c2]) (fun w' h => run_loadRow (.tmp 1) 48 rfl w.heap.size rfl _ _ h Try.underlying48 zero_hp.2) hS ?_
      simp only [Act.put, List.setIfInBounds_toArray, List.set_cons_zero, List.set_cons_succ]
      refine held_val 2 (some 20) rfl rfl (by kernel_rfl) (by kernel_rfl) (by kernel_rfl) noPanic_put rfl (.slice (some ⟨w.heap.size + 2, 0, none⟩) m.cells.length m.cells.length) (fun _ => by go_simp) hS ?_
      simp only [Act.put, List.setIfInBounds_toArray, List.set_cons_zero, List.set_cons_succ]
      have hBW : Below w.heap.size w wr.drew := hBW.drew
      have hRW : RowAt wr.drew w.heap.size 48 #[.int .i64 m.old, .slice o1 m.cells.length c1, .slice o2 m.roots.length c2] := hRW
      have hXW : RowAt wr.drew (w.heap.size + 1) 48 #[.int .i64 0, .slice none 0 0, .slice none 0 0] := hXW
      have hDM : RecAt wr.drew (w.heap.size + 2) 4 boolL (firstM m.cells.length k) := hDM
      have hke := l7Keep_any m HOK.out _ _ (w.heap.size + 2) (firstM m.cells.length k) wr.drew (HM.out.below hBW) (hap1 _ hmbw) (hap2 _ hmbw) hmsl hDM
      rw [show slR (w.heap.size + 2) (firstM m.cells.length k) = .slice (some ⟨(w.heap.size + 2), 0, none⟩) m.cells.length m.cells.length by rw [slR, hmsl]] at hke
      refine held_call 3 (some 21) (by kernel_rfl) rfl rfl rfl 67 #[.agg #[.int .i64 m.old, .slice o1 m.cells.length c1, .slice o2 m.roots.length c2], .slice (some ⟨(w.heap.size + 2), 0, none⟩) m.cells.length m.cells.length] (by go_simp) _ hke ?_
      rintro e w3 ⟨rfl, hD3, hg3⟩
      have hB3 : Below w.heap.size w w3 := hBW.grown hg3 hBW.size (fun k hk => by cases hk; exact hmbw)
      have hR3 := hRW.grown hg3 (by intro e; injection e; omega)
      have hX3 := hXW.grown hg3 (by intro e; injection e; omega)
      have hs3 : wr.heap.size ≤ w3.heap.size := hg3.size
      refine ⟨_, rfl, hR3, ?_⟩
      simp only [Act.put, List.setIfInBounds_toArray, List.set_cons_zero, List.set_cons_succ]
      have hD3' : RecAt w3 (w.heap.size + 2) 4 boolL (reachM m k) := by rw [show reachM m k = _ from rfl]; exact hD3
      have hmo := l7Move_any m HOK.out (reachM m k) (reachM_len hodl) _ _ (w.heap.size + 2) w3 (HM.out.below hB3) hD3'
      rw [show slR (w.heap.size + 2) (reachM m k) = .slice (some ⟨(w.heap.size + 2), 0, none⟩) m.cells.length m.cells.length by rw [slR, reachM_len hodl]] at hmo
      refine held_call 4 (some 22) (by kernel_rfl) rfl rfl rfl 84 #[.agg #[.int .i64 m.old, .slice o1 m.cells.length c1, .slice o2 m.roots.length c2], .slice (some ⟨(w.heap.size + 2), 0, none⟩) m.cells.length m.cells.length] (by go_simp) _ hmo ?_
      rintro e w4 ⟨⟨u1, u2, rfl, hO1, hO2⟩, hB4⟩
      obtain ⟨p1, q1, hv1⟩ := own_formX hO1
      obtain ⟨p2, q2, hv2⟩ := own_formX hO2
      subst hv1 hv2
      have hs4 := hB4.size
      have hR4 := hR3.below hB4 (by omega)
      have hX4 := hX3.below hB4 (by omega)
      have hB4' := hB3.trans (hB4.mono (by omega))
      refine ⟨_, rfl, hR4, ?_⟩
      simp only [Act.put, List.setIfInBounds_toArray, List.set_cons_zero, List.set_cons_succ]
      refine held_step 5 (by kernel_rfl) rfl rfl fun K hK => ?_
      refine wp_store_row 48 _ _ rfl (w.heap.size + 1) #[.int .i64 (moveM m (reachM m k)).old, .slice p1 (moveM m (reachM m k)).cells.length q1, .slice p2 (moveM m (reachM m k)).roots.length q2] rfl rfl 48 _ hX4 zero_hp.2 rfl (hp_one _ _ _ _ _ _ _) ?_
      obtain ⟨w5, hw5⟩ : ∃ w5, w5 = w4.setRow (w.heap.size + 1) #[.int .i64 (moveM m (reachM m k)).old, .slice p1 (moveM m (reachM m k)).cells.length q1, .slice p2 (moveM m (reachM m k)).roots.length q2] := ⟨_, rfl⟩
      have hg5 : w4.grownBy w5 (some (w.heap.size + 1)) := by rw [hw5]; exact ⟨rfl, rfl, rfl, by simp, fun k _ hne => setRow_other w4 (w.heap.size + 1) k _ (by intro e; exact hne (by rw [e]))⟩
      have hX5 : RowAt w5 (w.heap.size + 1) 48 #[.int .i64 (moveM m (reachM m k)).old, .slice p1 (moveM m (reachM m k)).cells.length q1, .slice p2 (moveM m (reachM m k)).roots.length q2] := by rw [hw5]; exact setRow_heap _ _ _ _ _ _ hX4
      rw [← hw5]
      refine hK.out _ _ (hR4.grown hg5 (by intro e; injection e; omega)) ?_
      refine wpAnyH_done (by kernel_rfl) ?_ _
      refine NoPanic.normal ?_
      have HF : Hid ((w5.ownsRow w.heap.size 59 4 (.slice p1 (moveM m (reachM m k)).cells.length q1) (moveM m (reachM m k)).cells.length ((moveM m (reachM m k)).cells.flatMap cellL) ∧ w5.ownsRow w.heap.size 3 1 (.slice p2 (moveM m (reachM m k)).roots.length q2) (moveM m (reachM m k)).roots.length ((moveM m (reachM m k)).roots.flatMap intL)) ∧ Below w.heap.size w w5) := by
        refine ⟨⟨own_baseX (hO1.kept hg5 (.inr (fun e => by have := (hO1.lt _ e).1; omega))) (by omega), own_baseX (hO2.kept hg5 (.inr (fun e => by have := (hO2.lt _ e).1; omega))) (by omega)⟩, hB4'.grown hg5 hB4'.size (fun k e => by cases e; omega)⟩
      clear hw5 hg5 hR3 hX3 hD3 hD3' hmo hke hO1 hO2 hR4 hX4
      go_wp2_with fail
      exact bodyPost_ret (v := .agg #[.int .i64 (moveM m (reachM m k)).old, .slice p1 (moveM m (reachM m k)).cells.length q1, .slice p2 (moveM m (reachM m k)).roots.length q2]) (results_cell_row Try.results72 _ _ (w.heap.size + 1) 48 _ (0, 0) _ rfl hX5 Try.underlying48 rfl zero_hp.2) rfl ⟨⟨_, _, rfl, HF.out.1.1, HF.out.1.2⟩, HF.out.2⟩

theorem resS_heap {fn : Func} (hf : fn.results = #[.cell 2 48, .tmp 3]) {b : Nat} {tmps : Array Value} {w : World} {x y z v : Value} (h2 : tmps[2]? = some (.pointer (some ⟨b, 0, none⟩))) (h3 : tmps[3]? = some v) (hR : RowAt w b 48 #[x, y, z]) :
    (results fn tmps).run Try.prog w = .ok (.tuple #[.agg #[x, y, z], v]) w := by
  have c0 : w.cell? ⟨b, 0, none⟩ = some x := by rw [cell_of_row w _ _ _ _ _ hR]; rfl
  have c1 : w.cell? ⟨b, 1, none⟩ = some y := by rw [cell_of_row w _ _ _ _ _ hR]; rfl
  have c2 : w.cell? ⟨b, 2, none⟩ = some z := by rw [cell_of_row w _ _ _ _ _ hR]; rfl
  simp [results, hf, go_sem, h2, h3, c0, c1, c2]
/-- What both answer of a heap that stays with old cells. -/
def CollS (m : Hp) (old : Nat) (w : World) (e : Ending) (w' : World) : Prop :=
  (∃ m' v1 v2, e = .returned (.tuple #[.agg #[.int .i64 m'.old, v1, v2], .bool (hpOk m)]) ∧ (m' = if hpOk m then moveM m (reachM m old) else ⟨0, [], []⟩) ∧ OwnR w' w.heap.size v1 59 cellL 4 m'.cells ∧ OwnR w' w.heap.size v2 3 intL 1 m'.roots) ∧ Below w.heap.size w w'

set_option maxHeartbeats 4000000 in
set_option maxRecDepth 100000 in
theorem specCollectHeap_any (m : Hp) (v1 v2 : Value) (w : World) (hs : HpSmall m 1048576) (hM : HpRd w v1 v2 m) :
    Calls Try.prog 38 #[.agg #[.int .i64 m.old, v1, v2]] w fun e w' => CollS m 0 w e w' := by
  obtain ⟨o1, c1, e1, x1⟩ := hM.1
  obtain ⟨o2, c2, e2, x2⟩ := hM.2
  have HM := hideT' hM
  clear x1 x2
  subst e1 e2
  have hz := zero_hp.1
  obtain ⟨wA, hwA⟩ : ∃ wA, wA = (w.alloc (.cells #[.int .i64 m.old, .slice o1 m.cells.length c1, .slice o2 m.roots.length c2] 48)).alloc (.cells #[.int .i64 0, .slice none 0 0, .slice none 0 0] 48) := ⟨_, rfl⟩
  have hBA : Below w.heap.size w wA := by rw [hwA]; exact ((Below.refl _ w).alloc (Nat.le_refl _) _).alloc (by simp) _
  have hsA : wA.heap.size = w.heap.size + 2 := by rw [hwA]; simp
  have hRA : RowAt wA w.heap.size 48 #[.int .i64 m.old, .slice o1 m.cells.length c1, .slice o2 m.roots.length c2] := by rw [hwA]; exact RowAt.old (RowAt.new _ _ _) _
  have hXA : RowAt wA (w.heap.size + 1) 48 #[.int .i64 0, .slice none 0 0, .slice none 0 0] := by
    rw [hwA]
    have := RowAt.new (w.alloc (.cells #[.int .i64 m.old, .slice o1 m.cells.length c1, .slice o2 m.roots.length c2] 48)) 48 #[.int .i64 0, .slice none 0 0, .slice none 0 0]
    rwa [World.size_alloc] at this
  have HWA := hideT' hwA
  have HG := hideT' (specGoodHeap_any m _ _ wA hs (hM.below hBA))
  have HA := hideT' (And.intro hRA (And.intro hXA hBA))
  clear hM hwA hRA hXA hBA
  go_enter Try.func38, Try.ntmps38
  go_wp2_with fail
  rw [← HWA.out]
  refine HG.out.mono ?_
  rintro e w1 ⟨rfl, hB1⟩
  have hR1 := HA.out.1.below hB1 (by omega)
  have hX1 := HA.out.2.1.below hB1 (by omega)
  have hBw1 := HA.out.2.2.trans (hB1.mono (by omega))
  have hs1 := hB1.size
  obtain ⟨q, hq⟩ : ∃ q, q = hpOk m := ⟨_, rfl⟩
  rw [← hq]
  have HQ := hideT' hq
  clear hq hB1
  cases q with
  | false =>
    have HX := hideT' (And.intro hX1 hBw1)
    clear hR1 hBw1
    go_wp2_with (refine store_3 rfl 48 _ _ rfl rfl zero_hp.2 (w.heap.size + 1) #[.int .i64 0, .slice none 0 0, .slice none 0 0] rfl (hp_one _ _ _ _ _ _ _) rfl rfl _ rfl hX1 ?_; intro w2 hR2 hg2 hs2)
    refine bodyPost_ret (v := .tuple #[.agg #[.int .i64 0, .slice none 0 0, .slice none 0 0], .bool false]) (resS_heap Try.results38 rfl rfl hR2) rfl ⟨⟨⟨0, [], []⟩, .slice none 0 0, .slice none 0 0, by rw [← HQ.out], by rw [← HQ.out]; rfl, World.ownsRow_nil _ _ _ _, World.ownsRow_nil _ _ _ _⟩, HX.out.2.grown hg2 HX.out.2.size (fun k e => by cases e; omega)⟩
  | true =>
  have hok : hpOk m = true := HQ.out.symm
  have HC := hideT' (l7Collect_any m hok _ _ w1 (HM.out.below hBw1))
  have d0 : w1.cell? ⟨w.heap.size, 0, none⟩ = some (.int .i64 m.old) := by rw [cell_of_row w1 _ _ _ _ _ hR1]; rfl
  have d1 : w1.cell? ⟨w.heap.size, 1, none⟩ = some (.slice o1 m.cells.length c1) := by rw [cell_of_row w1 _ _ _ _ _ hR1]; rfl
  have d2 : w1.cell? ⟨w.heap.size, 2, none⟩ = some (.slice o2 m.roots.length c2) := by rw [cell_of_row w1 _ _ _ _ _ hR1]; rfl
  have HX1 := hideT' (And.intro hX1 hBw1)
  clear hR1 hX1 hBw1 hok
  go_wp2_with fail
  refine HC.out.mono ?_
  rintro e w2 ⟨⟨u1, u2, rfl, hO1, hO2⟩, hB2⟩
  obtain ⟨m', hm'⟩ : ∃ m', m' = moveM m (reachM m 0) := ⟨_, rfl⟩
  rw [← hm'] at hO1 hO2 ⊢
  obtain ⟨p1, q1, hv1⟩ := own_formX hO1
  obtain ⟨p2, q2, hv2⟩ := own_formX hO2
  subst hv1 hv2
  have hX2 := HX1.out.1.below hB2 (by omega)
  have hBw2 := HX1.out.2.trans (hB2.mono (by omega))
  have HO := hideT' (And.intro hO1 (And.intro hO2 hBw2))
  have HM' := hideT' hm'
  have hs2 := hB2.size
  clear hO1 hO2 hBw2 hB2 hm' d0 d1 d2
  go_wp2_with (refine store_3 rfl 48 _ _ rfl rfl zero_hp.2 (w.heap.size + 1) #[.int .i64 m'.old, .slice p1 m'.cells.length q1, .slice p2 m'.roots.length q2] rfl (hp_one _ _ _ _ _ _ _) rfl rfl _ rfl hX2 ?_; intro w4 hR4 hg4 hs4)
  obtain ⟨hO13, hO23, hBw3⟩ := HO.out
  refine bodyPost_ret (v := .tuple #[.agg #[.int .i64 m'.old, .slice p1 m'.cells.length q1, .slice p2 m'.roots.length q2], .bool true]) (resS_heap Try.results38 rfl rfl hR4) rfl ⟨⟨m', _, _, by rw [← HQ.out], by rw [← HQ.out, HM'.out]; rfl, ?_, ?_⟩, hBw3.grown hg4 hBw3.size (fun k e => by cases e; omega)⟩
  · exact own_baseX (hO13.kept hg4 (.inr (fun e => by have := (hO13.lt _ e).1; omega))) (by omega)
  · exact own_baseX (hO23.kept hg4 (.inr (fun e => by have := (hO23.lt _ e).1; omega))) (by omega)

set_option maxHeartbeats 4000000 in
set_option maxRecDepth 100000 in
theorem specMinorCollect_any (m : Hp) (v1 v2 : Value) (w : World) (hs : HpSmall m 1048576) (hM : HpRd w v1 v2 m) :
    Calls Try.prog 41 #[.agg #[.int .i64 m.old, v1, v2]] w fun e w' => CollS m m.old.toNat w e w' := by
  obtain ⟨o1, c1, e1, x1⟩ := hM.1
  obtain ⟨o2, c2, e2, x2⟩ := hM.2
  have HM := hideT' hM
  clear x1 x2
  subst e1 e2
  have hz := zero_hp.1
  obtain ⟨wA, hwA⟩ : ∃ wA, wA = (w.alloc (.cells #[.int .i64 m.old, .slice o1 m.cells.length c1, .slice o2 m.roots.length c2] 48)).alloc (.cells #[.int .i64 0, .slice none 0 0, .slice none 0 0] 48) := ⟨_, rfl⟩
  have hBA : Below w.heap.size w wA := by rw [hwA]; exact ((Below.refl _ w).alloc (Nat.le_refl _) _).alloc (by simp) _
  have hsA : wA.heap.size = w.heap.size + 2 := by rw [hwA]; simp
  have hRA : RowAt wA w.heap.size 48 #[.int .i64 m.old, .slice o1 m.cells.length c1, .slice o2 m.roots.length c2] := by rw [hwA]; exact RowAt.old (RowAt.new _ _ _) _
  have hXA : RowAt wA (w.heap.size + 1) 48 #[.int .i64 0, .slice none 0 0, .slice none 0 0] := by
    rw [hwA]
    have := RowAt.new (w.alloc (.cells #[.int .i64 m.old, .slice o1 m.cells.length c1, .slice o2 m.roots.length c2] 48)) 48 #[.int .i64 0, .slice none 0 0, .slice none 0 0]
    rwa [World.size_alloc] at this
  have HWA := hideT' hwA
  have HG := hideT' (specGoodHeap_any m _ _ wA hs (hM.below hBA))
  have HA := hideT' (And.intro hRA (And.intro hXA hBA))
  clear hM hwA hRA hXA hBA
  go_enter Try.func41, Try.ntmps41
  go_wp2_with fail
  rw [← HWA.out]
  refine HG.out.mono ?_
  rintro e w1 ⟨rfl, hB1⟩
  have hR1 := HA.out.1.below hB1 (by omega)
  have hX1 := HA.out.2.1.below hB1 (by omega)
  have hBw1 := HA.out.2.2.trans (hB1.mono (by omega))
  have hs1 := hB1.size
  obtain ⟨q, hq⟩ : ∃ q, q = hpOk m := ⟨_, rfl⟩
  rw [← hq]
  have HQ := hideT' hq
  clear hq hB1
  cases q with
  | false =>
    have HX := hideT' (And.intro hX1 hBw1)
    clear hR1 hBw1
    go_wp2_with (refine store_3 rfl 48 _ _ rfl rfl zero_hp.2 (w.heap.size + 1) #[.int .i64 0, .slice none 0 0, .slice none 0 0] rfl (hp_one _ _ _ _ _ _ _) rfl rfl _ rfl hX1 ?_; intro w2 hR2 hg2 hs2)
    refine bodyPost_ret (v := .tuple #[.agg #[.int .i64 0, .slice none 0 0, .slice none 0 0], .bool false]) (resS_heap Try.results41 rfl rfl hR2) rfl ⟨⟨⟨0, [], []⟩, .slice none 0 0, .slice none 0 0, by rw [← HQ.out], by rw [← HQ.out]; rfl, World.ownsRow_nil _ _ _ _, World.ownsRow_nil _ _ _ _⟩, HX.out.2.grown hg2 HX.out.2.size (fun k e => by cases e; omega)⟩
  | true =>
  have hok : hpOk m = true := HQ.out.symm
  have HC := hideT' (l7Minor_any m hok _ _ w1 (HM.out.below hBw1))
  have d0 : w1.cell? ⟨w.heap.size, 0, none⟩ = some (.int .i64 m.old) := by rw [cell_of_row w1 _ _ _ _ _ hR1]; rfl
  have d1 : w1.cell? ⟨w.heap.size, 1, none⟩ = some (.slice o1 m.cells.length c1) := by rw [cell_of_row w1 _ _ _ _ _ hR1]; rfl
  have d2 : w1.cell? ⟨w.heap.size, 2, none⟩ = some (.slice o2 m.roots.length c2) := by rw [cell_of_row w1 _ _ _ _ _ hR1]; rfl
  have HX1 := hideT' (And.intro hX1 hBw1)
  clear hR1 hX1 hBw1 hok
  go_wp2_with fail
  refine HC.out.mono ?_
  rintro e w2 ⟨⟨u1, u2, rfl, hO1, hO2⟩, hB2⟩
  obtain ⟨m', hm'⟩ : ∃ m', m' = moveM m (reachM m m.old.toNat) := ⟨_, rfl⟩
  rw [← hm'] at hO1 hO2 ⊢
  obtain ⟨p1, q1, hv1⟩ := own_formX hO1
  obtain ⟨p2, q2, hv2⟩ := own_formX hO2
  subst hv1 hv2
  have hX2 := HX1.out.1.below hB2 (by omega)
  have hBw2 := HX1.out.2.trans (hB2.mono (by omega))
  have HO := hideT' (And.intro hO1 (And.intro hO2 hBw2))
  have HM' := hideT' hm'
  have hs2 := hB2.size
  clear hO1 hO2 hBw2 hB2 hm' d0 d1 d2
  go_wp2_with (refine store_3 rfl 48 _ _ rfl rfl zero_hp.2 (w.heap.size + 1) #[.int .i64 m'.old, .slice p1 m'.cells.length q1, .slice p2 m'.roots.length q2] rfl (hp_one _ _ _ _ _ _ _) rfl rfl _ rfl hX2 ?_; intro w4 hR4 hg4 hs4)
  obtain ⟨hO13, hO23, hBw3⟩ := HO.out
  refine bodyPost_ret (v := .tuple #[.agg #[.int .i64 m'.old, .slice p1 m'.cells.length q1, .slice p2 m'.roots.length q2], .bool true]) (resS_heap Try.results41 rfl rfl hR4) rfl ⟨⟨m', _, _, by rw [← HQ.out], by rw [← HQ.out, HM'.out]; rfl, ?_, ?_⟩, hBw3.grown hg4 hBw3.size (fun k e => by cases e; omega)⟩
  · exact own_baseX (hO13.kept hg4 (.inr (fun e => by have := (hO13.lt _ e).1; omega))) (by omega)
  · exact own_baseX (hO23.kept hg4 (.inr (fun e => by have := (hO23.lt _ e).1; omega))) (by omega)
end Go.Proofs.Ytoaancgmahdbnaa
