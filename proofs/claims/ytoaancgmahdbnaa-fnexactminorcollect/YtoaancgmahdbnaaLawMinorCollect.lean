/-
  Proved: for all arguments that can be read, laws.FnExactMinorCollect answers true (MinorCollect answers as its model, and its answer owns its memory), and its arguments read behind the call as before.
  No condition but the row's own. The frame is the one that the guide's program wrote.
-/
import Derived.Test.YtoaancgmahdbnaaRows
import Derived.Test.YtoaancgmahdbnaaImplColl
import Derived.Test.YtoaancgmahdbnaaSpecColl
import Derived.Test.YtoaancgmahdbnaaHeapMark
import Derived.WalkKit
import Derived.ProofKit
import Derived.OpenShut
import Derived.ShutString
import Derived.ChangeOld
import Derived.Below
import Derived.Carry
namespace Go.Proofs.Ytoaancgmahdbnaa.fnExactMinorCollect
open Go.ChangeShapes Go.WideShapes Go.ChangeAt Go.RowKit
open Go.ChangeMaps (open_string shut_string)
set_option linter.unusedVariables false

theorem own : ownKnob Try.prog.godebug = none := by kernel_rfl

theorem coll_small {m m1 : Hp} {ms : List Bool} (hm : m1 = if hpOk m then moveM m ms else ⟨0, [], []⟩) : m1.cells.length ≤ 200 ∧ m1.roots.length ≤ 60 := by
  rw [hm]
  split
  · rename_i h
    obtain ⟨h1, h2, _⟩ := hpOk_all h
    exact ⟨Nat.le_trans (moveTo_len m.cells ms m.cells.length).2 h1, by show (movR _ m.roots).length ≤ 60; rw [movR_len]; exact h2⟩
  · exact ⟨by simp, by simp⟩

set_option maxHeartbeats 4000000 in
set_option maxRecDepth 100000 in
theorem walk (m : Hp) (vl vr : Value) (w : World) (hv : HpIn w vl vr m) (hs : HpSmall m maxLen) :
    Calls Try.prog 11 #[.agg #[.int .i64 m.old, vl, vr]] w fun e w' => e = .returned (.bool true) ∧ Below w.heap.size w w' := by
  obtain ⟨o1, c1, e1⟩ := hv.1.len
  obtain ⟨o2, c2, e2⟩ := hv.2.len
  subst e1
  subst e2
  have hR := RowAt.new w 44 #[.int .i64 m.old, .slice o1 m.cells.length c1, .slice o2 m.roots.length c2]
  have hB0 : Below w.heap.size w (w.alloc (.cells #[.int .i64 m.old, .slice o1 m.cells.length c1, .slice o2 m.roots.length c2] 44)) := (Below.refl _ _).alloc (Nat.le_refl _) _
  have HV := hideT' hv
  have HR := hideT' hR
  have hzm := zero_hp.1
  have HC1 := hideT' (szHeap_any m _ _ _ (hv.below hB0) hs)
  -- what every later world knows
  have HF : Hid (∀ w', Below (w.heap.size + 1) (w.alloc (.cells #[.int .i64 m.old, .slice o1 m.cells.length c1, .slice o2 m.roots.length c2] 44)) w' → (w'.cell? ⟨w.heap.size, 0, none⟩ = some (.int .i64 m.old) ∧ w'.cell? ⟨w.heap.size, 1, none⟩ = some (.slice o1 m.cells.length c1) ∧ w'.cell? ⟨w.heap.size, 2, none⟩ = some (.slice o2 m.roots.length c2)) ∧ Below w.heap.size w w' ∧ w.heap.size + 1 ≤ w'.heap.size ∧ RowAt w' w.heap.size 44 #[.int .i64 m.old, .slice o1 m.cells.length c1, .slice o2 m.roots.length c2]) := by
    intro w' h
    have hr := RowAt.below HR.out h (by omega)
    refine ⟨⟨?_, ?_, ?_⟩, hB0.trans (h.mono (by omega)), by have := h.size; simpa using this, hr⟩ <;> (rw [cell_of_row w' _ _ _ _ _ hr]; rfl)
  clear hv hs hR hB0
  go_enter Try.func11, Try.ntmps11
  go_wp2_with fail
  refine HC1.out.mono ?_
  rintro e w1 ⟨⟨r, rfl, hr⟩, hB1⟩
  have hB1' : Below (w.heap.size + 1) (w.alloc (.cells #[.int .i64 m.old, .slice o1 m.cells.length c1, .slice o2 m.roots.length c2] 44)) w1 := hB1.mono (by simp)
  obtain ⟨⟨f0, f1, f2⟩, hT1, hs1, _⟩ := HF.out w1 hB1'
  rcases hr with rfl | ⟨hr0, hsm⟩
  · go_wp2
    go_ret
    exact ⟨rfl, hT1⟩
  have hrn : ¬ r < 0 := by omega
  have HSM := hideT' hsm
  have HC2 := hideT' (toHeap_any m _ _ w1 (HV.out.below hT1) hsm.1 hsm.2)
  clear hsm hB1
  go_wp2_with fail
  refine HC2.out.mono ?_
  rintro e w2 ⟨⟨b2, c2', rfl, hb2, hc2, hM2⟩, hB2⟩
  have hB2' := hB1'.trans (hB2.mono hs1)
  obtain ⟨⟨g0, g1, g2⟩, hT2, hs2, _⟩ := HF.out w2 hB2'
  have HC3 := hideT' (specMinorCollect_any m _ _ w2 HSM.out hM2.rd)
  clear hB2 hM2 f0 f1 f2
  go_wp2_with fail
  refine HC3.out.mono ?_
  rintro e w3 ⟨⟨m1, u1, u2, rfl, hm1, hO1, hO2⟩, hB3⟩
  obtain ⟨p1, q1, hv1⟩ := own_formX hO1
  obtain ⟨p2, q2, hv2⟩ := own_formX hO2
  subst hv1 hv2
  have hB3' := hB2'.trans (hB3.mono hs2)
  have hBn3 : Below w3.heap.size w3 (w3.alloc (.cells #[.int .i64 m1.old, .slice p1 m1.cells.length q1, .slice p2 m1.roots.length q2] 48)) := (Below.refl _ _).alloc (Nat.le_refl _) _
  have hs3 := (HF.out w3 hB3').2.2.1
  have hB3n := hB3'.trans (hBn3.mono hs3)
  obtain ⟨⟨k0, k1, k2⟩, hT3, hs3n, _⟩ := HF.out _ hB3n
  obtain ⟨q, hq⟩ : ∃ q, q = hpOk m := ⟨_, rfl⟩
  rw [← hq]
  have HQ := hideT' hq
  have HM1 := hideT' hm1
  have hsm1 := coll_small hm1
  have HU1 : Hid (∀ g, (Value.slice p1 m1.cells.length q1).ownBlock = some g → w2.heap.size ≤ g ∧ g < w3.heap.size) := fun g e => hO1.lt g e
  have HU2 : Hid (∀ g, (Value.slice p2 m1.roots.length q2).ownBlock = some g → w2.heap.size ≤ g ∧ g < w3.heap.size) := fun g e => hO2.lt g e
  have hR3 := RowAt.new w3 48 #[.int .i64 m1.old, .slice p1 m1.cells.length q1, .slice p2 m1.roots.length q2]
  have HS3 := hideT' (And.intro hR3 (And.intro (OwnR.below (l := m1.cells) hO1 hBn3 (Nat.le_refl _)) (OwnR.below (l := m1.roots) hO2 hBn3 (Nat.le_refl _))))
  have HC4 := hideT' (toHeap_any m _ _ (w3.alloc (.cells #[.int .i64 m1.old, .slice p1 m1.cells.length q1, .slice p2 m1.roots.length q2] 48)) (HV.out.below hT3) HSM.out.1 HSM.out.2)
  clear hq hB3 g0 g1 g2 hO1 hO2 hm1 hR3 hBn3 hB3'
  go_wp2_with fail
  refine HC4.out.mono ?_
  rintro e w4 ⟨⟨b4, c4, rfl, hb4, hc4, hM4⟩, hB4⟩
  simp only [World.size_alloc] at hb4 hc4
  have hs34 := hB4.size
  simp only [World.size_alloc] at hs34
  have hB4' := hB3n.trans (hB4.mono hs3n)
  have hs4 := (HF.out w4 hB4').2.2.1
  have l4b := hM4.1.lt
  have l4c := hM4.2.lt
  have hBn : Below w4.heap.size w4 (w4.alloc (.cells #[.int .i64 m.old, slR b4 m.cells, slR c4 m.roots] 48)) := (Below.refl _ _).alloc (Nat.le_refl _) _
  have hB5' := hB4'.trans (hBn.mono hs4)
  have hRx := RowAt.new w4 48 #[.int .i64 m.old, slR b4 m.cells, slR c4 m.roots]
  have hM5 := hM4.below hBn l4b l4c
  have HC5 := hideT' (implMinorCollect_any m b4 c4 (w4.alloc (.cells #[.int .i64 m.old, slR b4 m.cells, slR c4 m.roots] 48)) HSM.out hM5)
  have HS5 : Hid (RowAt (w4.alloc (.cells #[.int .i64 m.old, slR b4 m.cells, slR c4 m.roots] 48)) w3.heap.size 48 #[.int .i64 m1.old, .slice p1 m1.cells.length q1, .slice p2 m1.roots.length q2] ∧ (OwnR (w4.alloc (.cells #[.int .i64 m.old, slR b4 m.cells, slR c4 m.roots] 48)) w2.heap.size (.slice p1 m1.cells.length q1) 59 cellL 4 m1.cells ∧ OwnR (w4.alloc (.cells #[.int .i64 m.old, slR b4 m.cells, slR c4 m.roots] 48)) w2.heap.size (.slice p2 m1.roots.length q2) 3 intL 1 m1.roots) ∧ RowAt (w4.alloc (.cells #[.int .i64 m.old, slR b4 m.cells, slR c4 m.roots] 48)) w4.heap.size 48 #[.int .i64 m.old, slR b4 m.cells, slR c4 m.roots] ∧ HpAt (w4.alloc (.cells #[.int .i64 m.old, slR b4 m.cells, slR c4 m.roots] 48)) b4 c4 m) :=
    ⟨(HS3.out.1.below hB4 (by simp)).below hBn (by omega), ⟨OwnR.below (OwnR.below HS3.out.2.1 hB4 (Nat.le_refl _)) hBn (Nat.le_refl _), OwnR.below (OwnR.below HS3.out.2.2 hB4 (Nat.le_refl _)) hBn (Nat.le_refl _)⟩, hRx, hM5⟩
  have hs5 := (HF.out _ hB5').2.2.1
  clear hB4 hM4 hRx hM5 k0 k1 k2 hBn HS3
  go_wp2_with fail
  refine HC5.out.mono ?_
  rintro e w6 ⟨⟨m2, y1, y2, rfl, hm2, hO1, hO2⟩, hB6⟩
  obtain rfl : m1 = m2 := by rw [hm2, HM1.out]
  obtain ⟨r1, s1, hv1⟩ := own_formX hO1
  obtain ⟨r2, s2, hv2⟩ := own_formX hO2
  subst hv1 hv2
  rw [← HQ.out]
  have hs6 := hB6.size
  simp only [World.size_alloc] at hs6
  have HY1 : Hid (∀ g, (Value.slice r1 m1.cells.length s1).ownBlock = some g → w4.heap.size + 1 ≤ g ∧ g < w6.heap.size) := fun g e => by have := hO1.lt g e; simpa using this
  have HY2 : Hid (∀ g, (Value.slice r2 m1.roots.length s2).ownBlock = some g → w4.heap.size + 1 ≤ g ∧ g < w6.heap.size) := fun g e => by have := hO2.lt g e; simpa using this
  have hB6' := hB5'.trans (hB6.mono hs5)
  have hBn6 : Below w6.heap.size w6 (w6.alloc (.cells #[.int .i64 m1.old, .slice r1 m1.cells.length s1, .slice r2 m1.roots.length s2] 48)) := (Below.refl _ _).alloc (Nat.le_refl _) _
  have hB7' := hB6'.trans (hBn6.mono (by omega))
  obtain ⟨W7, hW7⟩ : ∃ W7, W7 = w6.alloc (.cells #[.int .i64 m1.old, .slice r1 m1.cells.length s1, .slice r2 m1.roots.length s2] 48) := ⟨_, rfl⟩
  rw [← hW7] at hBn6 hB7'
  have hsW7 : W7.heap.size = w6.heap.size + 1 := by rw [hW7]; simp
  have hGB : RowAt W7 w6.heap.size 48 #[.int .i64 m1.old, .slice r1 m1.cells.length s1, .slice r2 m1.roots.length s2] := by rw [hW7]; exact RowAt.new _ _ _
  have hO1' : w6.ownsRow (w4.heap.size + 1) 59 4 (.slice r1 m1.cells.length s1) m1.cells.length (m1.cells.flatMap cellL) := by simpa using hO1
  have hO2' : w6.ownsRow (w4.heap.size + 1) 3 1 (.slice r2 m1.roots.length s2) m1.roots.length (m1.roots.flatMap intL) := by simpa using hO2
  have HS7 : Hid ((RowAt W7 w3.heap.size 48 #[.int .i64 m1.old, .slice p1 m1.cells.length q1, .slice p2 m1.roots.length q2] ∧ RowAt W7 w4.heap.size 48 #[.int .i64 m.old, slR b4 m.cells, slR c4 m.roots] ∧ RowAt W7 w6.heap.size 48 #[.int .i64 m1.old, .slice r1 m1.cells.length s1, .slice r2 m1.roots.length s2]) ∧ (OwnR W7 w2.heap.size (.slice p1 m1.cells.length q1) 59 cellL 4 m1.cells ∧ OwnR W7 w2.heap.size (.slice p2 m1.roots.length q2) 3 intL 1 m1.roots) ∧ (OwnR W7 (w4.heap.size + 1) (.slice r1 m1.cells.length s1) 59 cellL 4 m1.cells ∧ OwnR W7 (w4.heap.size + 1) (.slice r2 m1.roots.length s2) 3 intL 1 m1.roots) ∧ HpAt W7 b4 c4 m) :=
    ⟨⟨(HS5.out.1.below hB6 (by simp; omega)).below hBn6 (by omega), (HS5.out.2.2.1.below hB6 (by simp)).below hBn6 (by omega), hGB⟩, ⟨OwnR.below (OwnR.below HS5.out.2.1.1 hB6 (Nat.le_refl _)) hBn6 (Nat.le_refl _), OwnR.below (OwnR.below HS5.out.2.1.2 hB6 (Nat.le_refl _)) hBn6 (Nat.le_refl _)⟩, ⟨OwnR.below (l := m1.cells) hO1' hBn6 (Nat.le_refl _), OwnR.below (l := m1.roots) hO2' hBn6 (Nat.le_refl _)⟩, (HS5.out.2.2.2.below hB6 (by simp; omega) (by simp; omega)).below hBn6 (by omega) (by omega)⟩
  have hqq : (q != q) = false := by cases q <;> rfl
  have HC6 := hideT' (eqHeap_in m1 _ _ _ _ W7 (by omega) (by omega) ⟨HS7.out.2.2.1.1.inR cellL_len, HS7.out.2.2.1.2.inR intL_len⟩ ⟨HS7.out.2.1.1.inR cellL_len, HS7.out.2.1.2.inR intL_len⟩)
  have HW7 := hideT' hW7
  have hh3 : w6.cell? ⟨w3.heap.size, 0, none⟩ = some (.int .i64 m1.old) ∧ w6.cell? ⟨w3.heap.size, 1, none⟩ = some (.slice p1 m1.cells.length q1) ∧ w6.cell? ⟨w3.heap.size, 2, none⟩ = some (.slice p2 m1.roots.length q2) := by
    have hr := HS5.out.1.below hB6 (by simp; omega)
    refine ⟨?_, ?_, ?_⟩ <;> (rw [cell_of_row w6 _ _ _ _ _ hr]; rfl)
  obtain ⟨z0, z1, z2⟩ := hh3
  have hl36 : w3.heap.size < w6.heap.size := by omega
  clear hB6 hB4' hB5' hO1 hO2 hO1' hO2' hm2 hGB hBn6 hB6' hW7 HS5
  go_wp2_with fail
  rw [← HW7.out]
  refine HC6.out.mono ?_
  rintro e W6 ⟨rfl, hBb⟩
  have hB6b := hB7'.trans (hBb.mono (by omega))
  have hs6b := hBb.size
  have hX6 := RowAt.below HS7.out.1.2.1 hBb (by omega)
  have hM6 := HS7.out.2.2.2.below hBb (by omega) (by omega)
  have HSb := hideT' (And.intro (And.intro (HS7.out.1.1.below hBb (by omega)) (HS7.out.1.2.2.below hBb (by omega))) (And.intro (And.intro (OwnR.below HS7.out.2.1.1 hBb (Nat.le_refl _)) (OwnR.below HS7.out.2.1.2 hBb (Nat.le_refl _))) (And.intro (OwnR.below HS7.out.2.2.1.1 hBb (Nat.le_refl _)) (OwnR.below HS7.out.2.2.1.2 hBb (Nat.le_refl _)))))
  clear hBb HS7 z0 z1 z2
  obtain ⟨_, hT6, _, hR6⟩ := HF.out W6 hB6b
  go_wp2_with fail
  have hS : (RowAt W6.drew w4.heap.size 48 #[.int .i64 m.old, slR b4 m.cells, slR c4 m.roots] ∧ RowAt W6.drew w.heap.size 44 #[.int .i64 m.old, .slice o1 m.cells.length c1, .slice o2 m.roots.length c2]) ∧ HpAt W6.drew b4 c4 m := ⟨⟨hX6, hR6⟩, hM6⟩
  refine held_begin (fun w' => (RowAt w' w4.heap.size 48 #[.int .i64 m.old, slR b4 m.cells, slR c4 m.roots] ∧ RowAt w' w.heap.size 44 #[.int .i64 m.old, .slice o1 m.cells.length c1, .slice o2 m.roots.length c2]) ∧ HpAt w' b4 c4 m) (by kernel_rfl) ?_
  refine held_valS 0 (some 41) rfl rfl (by kernel_rfl) (by kernel_rfl) (by kernel_rfl) noPanic_put rfl (.agg (hpC b4 c4 m)) (fun w' h => run_loadRow (.tmp 6) 48 rfl w4.heap.size rfl _ _ h.1.1 Try.underlying48 zero_hp.2) hS ?_
  simp only [Act.put, List.setIfInBounds_toArray, List.set_cons_zero, List.set_cons_succ]
  refine held_valS 1 (some 42) rfl rfl (by kernel_rfl) (by kernel_rfl) (by kernel_rfl) noPanic_put rfl (.agg #[.int .i64 m.old, .slice o1 m.cells.length c1, .slice o2 m.roots.length c2]) (fun w' h => run_loadRow (.tmp 1) 44 rfl w.heap.size rfl _ _ h.1.2 Try.underlying44 size_lhp) hS ?_
  simp only [Act.put, List.setIfInBounds_toArray, List.set_cons_zero, List.set_cons_succ]
  refine held_call 2 (some 43) (by kernel_rfl) rfl rfl rfl 32 #[.agg #[.int .i64 m.old, .slice o1 m.cells.length c1, .slice o2 m.roots.length c2]] (by go_simp) _ (toHeap_any m _ _ W6.drew (HV.out.below hT6.drew) HSM.out.1 HSM.out.2) ?_
  rintro e w7 ⟨⟨b7, c7, rfl, hb7, hc7, hM7⟩, hB7⟩
  have hB7 : Below W6.heap.size W6 w7 := ⟨hB7.os, hB7.tape, hB7.output, hB7.size, hB7.block⟩
  have l6b := hM6.1.lt
  have l6c := hM6.2.lt
  have hT7 := hT6.trans (hB7.mono hT6.size)
  have hM67 := hM6.below hB7 l6b l6c
  have hS7 : (RowAt w7 w4.heap.size 48 #[.int .i64 m.old, slR b4 m.cells, slR c4 m.roots] ∧ RowAt w7 w.heap.size 44 #[.int .i64 m.old, .slice o1 m.cells.length c1, .slice o2 m.roots.length c2]) ∧ HpAt w7 b4 c4 m := ⟨⟨RowAt.below hX6 hB7 (RowAt.lt hX6), RowAt.below hR6 hB7 (RowAt.lt hR6)⟩, hM67⟩
  refine ⟨_, rfl, hS7, ?_⟩
  simp only [Act.put, List.setIfInBounds_toArray, List.set_cons_zero, List.set_cons_succ]
  refine held_call 3 (some 44) (by kernel_rfl) rfl rfl rfl 34 #[.agg (hpC b4 c4 m), .agg (hpC b7 c7 m)] (by go_simp) _ (eqHeap_in m _ _ _ _ w7 HSM.out.1 HSM.out.2 hM67.rd hM7.rd) ?_
  rintro e w8 ⟨rfl, hB8⟩
  have hT8 := hT7.trans (hB8.mono hT7.size)
  have l7b := hM67.1.lt
  have l7c := hM67.2.lt
  have hS8 : (RowAt w8 w4.heap.size 48 #[.int .i64 m.old, slR b4 m.cells, slR c4 m.roots] ∧ RowAt w8 w.heap.size 44 #[.int .i64 m.old, .slice o1 m.cells.length c1, .slice o2 m.roots.length c2]) ∧ HpAt w8 b4 c4 m := ⟨⟨RowAt.below hS7.1.1 hB8 (RowAt.lt hS7.1.1), RowAt.below hS7.1.2 hB8 (RowAt.lt hS7.1.2)⟩, hM67.below hB8 l7b l7c⟩
  refine ⟨_, rfl, hS8, ?_⟩
  simp only [Act.put, List.setIfInBounds_toArray, List.set_cons_zero, List.set_cons_succ]
  refine held_val 4 (some 45) rfl rfl (by kernel_rfl) (by kernel_rfl) (by kernel_rfl) noPanic_put rfl (.bool false) (fun _ => by go_simp) hS8 ?_
  simp only [Act.put, List.setIfInBounds_toArray, List.set_cons_zero, List.set_cons_succ]
  refine wpAnyH_done (by kernel_rfl) ?_ _
  refine NoPanic.normal ?_
  have hB8' : Below (w.heap.size + 1) (w.alloc (.cells #[.int .i64 m.old, .slice o1 m.cells.length c1, .slice o2 m.roots.length c2] 44)) w8 := hB6b.trans ((hB7.mono (by omega)).trans (hB8.mono (by have := hB7.size; omega)))
  have hs7z := hB7.size
  have hs8z := hB8.size
  have g0 : RowAt w8 w4.heap.size 48 #[.int .i64 m.old, slR b4 m.cells, slR c4 m.roots] := hS8.1.1
  have d0 : w8.cell? ⟨w4.heap.size, 0, none⟩ = some (.int .i64 m.old) := by rw [cell_of_row w8 _ _ _ _ _ g0]; rfl
  have d1 : w8.cell? ⟨w4.heap.size, 1, none⟩ = some (slR b4 m.cells) := by rw [cell_of_row w8 _ _ _ _ _ g0]; rfl
  have d2 : w8.cell? ⟨w4.heap.size, 2, none⟩ = some (slR c4 m.roots) := by rw [cell_of_row w8 _ _ _ _ _ g0]; rfl
  have HS8 : Hid ((RowAt w8 w3.heap.size 48 #[.int .i64 m1.old, .slice p1 m1.cells.length q1, .slice p2 m1.roots.length q2] ∧ RowAt w8 w6.heap.size 48 #[.int .i64 m1.old, .slice r1 m1.cells.length s1, .slice r2 m1.roots.length s2]) ∧ (OwnR w8 w2.heap.size (.slice p1 m1.cells.length q1) 59 cellL 4 m1.cells ∧ OwnR w8 w2.heap.size (.slice p2 m1.roots.length q2) 3 intL 1 m1.roots) ∧ (OwnR w8 (w4.heap.size + 1) (.slice r1 m1.cells.length s1) 59 cellL 4 m1.cells ∧ OwnR w8 (w4.heap.size + 1) (.slice r2 m1.roots.length s2) 3 intL 1 m1.roots)) :=
    ⟨⟨(HSb.out.1.1.below hB7 (by omega)).below hB8 (by omega), (HSb.out.1.2.below hB7 (by omega)).below hB8 (by omega)⟩, ⟨OwnR.below (OwnR.below HSb.out.2.1.1 hB7 (Nat.le_refl _)) hB8 (Nat.le_refl _), OwnR.below (OwnR.below HSb.out.2.1.2 hB7 (Nat.le_refl _)) hB8 (Nat.le_refl _)⟩, ⟨OwnR.below (OwnR.below HSb.out.2.2.1 hB7 (Nat.le_refl _)) hB8 (Nat.le_refl _), OwnR.below (OwnR.below HSb.out.2.2.2 hB7 (Nat.le_refl _)) hB8 (Nat.le_refl _)⟩⟩
  have HMK := hideT' (markHeap_own m.old (slR b4 m.cells) (slR c4 m.roots) m.cells.length m.roots.length _ _ 1 w3.heap.size w3.heap.size w8 (by omega) (by have := HSM.out.1; have := HSM.out.2; omega) (hS8.2.1.own cellL_len (by omega) (by have := HSM.out.1; unfold maxLen; omega)) (hS8.2.2.own intL_len (by omega) (by have := HSM.out.2; unfold maxLen; omega)))
  have hs8 := (HF.out w8 hB8').2.2.1
  clear hS hS7 hS8 hM67 hM7 hB7 hB8 hM6 hX6 hR6 g0 hT7 hT6 HSb
  obtain ⟨M, hM⟩ : ∃ M : Int, M = 1 + 4 * (m.cells.length : Int) + (m.roots.length : Int) := ⟨_, rfl⟩
  have hMn : ¬ M < 0 := by omega
  have HM := hideT' hM
  clear hM
  go_wp2_with fail
  refine HMK.out.mono ?_
  rintro e w9 ⟨rfl, _, hOT⟩
  rw [← HM.out]
  have hneX : ∀ g, (g < w3.heap.size + 1 ∨ w4.heap.size + 1 ≤ g ∨ g = w4.heap.size) → some g ≠ (slR b4 m.cells).ownBlock ∧ some g ≠ (slR c4 m.roots).ownBlock := fun g hg => by
    refine ⟨fun e => ?_, fun e => ?_⟩ <;> (simp only [Value.ownBlock] at e; injection e with e; omega)
  have HS9 : Hid ((RowAt w9 w3.heap.size 48 #[.int .i64 m1.old, .slice p1 m1.cells.length q1, .slice p2 m1.roots.length q2] ∧ RowAt w9 w6.heap.size 48 #[.int .i64 m1.old, .slice r1 m1.cells.length s1, .slice r2 m1.roots.length s2]) ∧ (OwnR w9 w2.heap.size (.slice p1 m1.cells.length q1) 59 cellL 4 m1.cells ∧ OwnR w9 w2.heap.size (.slice p2 m1.roots.length q2) 3 intL 1 m1.roots) ∧ (OwnR w9 (w4.heap.size + 1) (.slice r1 m1.cells.length s1) 59 cellL 4 m1.cells ∧ OwnR w9 (w4.heap.size + 1) (.slice r2 m1.roots.length s2) 3 intL 1 m1.roots)) :=
    ⟨⟨hOT.row HS8.out.1.1 (hneX _ (by omega)).1 (hneX _ (by omega)).2, hOT.row HS8.out.1.2 (hneX _ (by omega)).1 (hneX _ (by omega)).2⟩, ⟨hOT.own HS8.out.2.1.1 (fun g e => hneX g (by have := HU1.out g e; omega)), hOT.own HS8.out.2.1.2 (fun g e => hneX g (by have := HU2.out g e; omega))⟩, ⟨hOT.own HS8.out.2.2.1 (fun g e => hneX g (by have := HY1.out g e; omega)), hOT.own HS8.out.2.2.2 (fun g e => hneX g (by have := HY2.out g e; omega))⟩⟩
  have hB9 : Below (w.heap.size + 1) (w.alloc (.cells #[.int .i64 m.old, .slice o1 m.cells.length c1, .slice o2 m.roots.length c2] 44)) w9 := hOT.below hB8' hs8 (fun k e => by simp only [Value.ownBlock] at e; injection e with e; omega) (fun k e => by simp only [Value.ownBlock] at e; injection e with e; omega)
  have hs9 := (HF.out w9 hB9).2.2.1
  have hs9z := hOT.size
  have HC7 := hideT' (eqHeap_in m1 _ _ _ _ w9 (by omega) (by omega) ⟨HS9.out.2.2.1.inR cellL_len, HS9.out.2.2.2.inR intL_len⟩ ⟨HS9.out.2.1.1.inR cellL_len, HS9.out.2.1.2.inR intL_len⟩)
  have hra := HS9.out.1.1
  have hrb := HS9.out.1.2
  have i0 : w9.cell? ⟨w3.heap.size, 0, none⟩ = some (.int .i64 m1.old) := by rw [cell_of_row w9 _ _ _ _ _ hra]; rfl
  have i1 : w9.cell? ⟨w3.heap.size, 1, none⟩ = some (.slice p1 m1.cells.length q1) := by rw [cell_of_row w9 _ _ _ _ _ hra]; rfl
  have i2 : w9.cell? ⟨w3.heap.size, 2, none⟩ = some (.slice p2 m1.roots.length q2) := by rw [cell_of_row w9 _ _ _ _ _ hra]; rfl
  have j0 : w9.cell? ⟨w6.heap.size, 0, none⟩ = some (.int .i64 m1.old) := by rw [cell_of_row w9 _ _ _ _ _ hrb]; rfl
  have j1 : w9.cell? ⟨w6.heap.size, 1, none⟩ = some (.slice r1 m1.cells.length s1) := by rw [cell_of_row w9 _ _ _ _ _ hrb]; rfl
  have j2 : w9.cell? ⟨w6.heap.size, 2, none⟩ = some (.slice r2 m1.roots.length s2) := by rw [cell_of_row w9 _ _ _ _ _ hrb]; rfl
  clear hOT hneX d0 d1 d2 hra hrb HS8
  go_wp2_with fail
  refine HC7.out.mono ?_
  rintro e w10 ⟨rfl, hB10⟩
  have hB10' := hB9.trans (hB10.mono hs9)
  have hs10 := (HF.out w10 hB10').2.2.1
  have hs10z := hB10.size
  have HS10 : Hid ((RowAt w10 w3.heap.size 48 #[.int .i64 m1.old, .slice p1 m1.cells.length q1, .slice p2 m1.roots.length q2] ∧ RowAt w10 w6.heap.size 48 #[.int .i64 m1.old, .slice r1 m1.cells.length s1, .slice r2 m1.roots.length s2]) ∧ (OwnR w10 w2.heap.size (.slice p1 m1.cells.length q1) 59 cellL 4 m1.cells ∧ OwnR w10 w2.heap.size (.slice p2 m1.roots.length q2) 3 intL 1 m1.roots) ∧ (OwnR w10 (w4.heap.size + 1) (.slice r1 m1.cells.length s1) 59 cellL 4 m1.cells ∧ OwnR w10 (w4.heap.size + 1) (.slice r2 m1.roots.length s2) 3 intL 1 m1.roots)) :=
    ⟨⟨HS9.out.1.1.below hB10 (by omega), HS9.out.1.2.below hB10 (by omega)⟩, ⟨OwnR.below HS9.out.2.1.1 hB10 (Nat.le_refl _), OwnR.below HS9.out.2.1.2 hB10 (Nat.le_refl _)⟩, ⟨OwnR.below HS9.out.2.2.1 hB10 (Nat.le_refl _), OwnR.below HS9.out.2.2.2 hB10 (Nat.le_refl _)⟩⟩
  have HC8 := hideT' (markHeap_own m1.old (.slice r1 m1.cells.length s1) (.slice r2 m1.roots.length s2) m1.cells.length m1.roots.length _ _ 1 (w4.heap.size + 1) (w4.heap.size + 1) w10 (by omega) (by omega) HS10.out.2.2.1 HS10.out.2.2.2)
  obtain ⟨N, hN⟩ : ∃ N : Int, N = 1 + 4 * (m1.cells.length : Int) + (m1.roots.length : Int) := ⟨_, rfl⟩
  have hNn : ¬ N < 0 := by omega
  have HN := hideT' hN
  have hrb := HS10.out.1.2
  have x0 : w10.cell? ⟨w6.heap.size, 0, none⟩ = some (.int .i64 m1.old) := by rw [cell_of_row w10 _ _ _ _ _ hrb]; rfl
  have x1 : w10.cell? ⟨w6.heap.size, 1, none⟩ = some (.slice r1 m1.cells.length s1) := by rw [cell_of_row w10 _ _ _ _ _ hrb]; rfl
  have x2 : w10.cell? ⟨w6.heap.size, 2, none⟩ = some (.slice r2 m1.roots.length s2) := by rw [cell_of_row w10 _ _ _ _ _ hrb]; rfl
  clear hN hB10 HS9 i0 i1 i2 j0 j1 j2 hrb
  go_wp2_with fail
  refine HC8.out.mono ?_
  rintro e w11 ⟨rfl, ⟨hO11, hO12⟩, hOT⟩
  rw [← HN.out]
  have hneY : ∀ g, (g < w4.heap.size + 1 ∨ w6.heap.size ≤ g) → some g ≠ (Value.slice r1 m1.cells.length s1).ownBlock ∧ some g ≠ (Value.slice r2 m1.roots.length s2).ownBlock := fun g hg => by
    refine ⟨fun e => ?_, fun e => ?_⟩
    · have := HY1.out g e.symm; omega
    · have := HY2.out g e.symm; omega
  have hneS : ∀ g, g < w3.heap.size → some g ≠ (Value.slice r1 m1.cells.length s1).ownBlock ∧ some g ≠ (Value.slice r2 m1.roots.length s2).ownBlock := fun g hg => hneY g (by omega)
  have HS11 : Hid ((RowAt w11 w3.heap.size 48 #[.int .i64 m1.old, .slice p1 m1.cells.length q1, .slice p2 m1.roots.length q2] ∧ RowAt w11 w6.heap.size 48 #[.int .i64 m1.old, .slice r1 m1.cells.length s1, .slice r2 m1.roots.length s2]) ∧ (OwnR w11 w2.heap.size (.slice p1 m1.cells.length q1) 59 cellL 4 m1.cells ∧ OwnR w11 w2.heap.size (.slice p2 m1.roots.length q2) 3 intL 1 m1.roots)) :=
    ⟨⟨hOT.row HS10.out.1.1 (hneY _ (by omega)).1 (hneY _ (by omega)).2, hOT.row HS10.out.1.2 (hneY _ (by omega)).1 (hneY _ (by omega)).2⟩, ⟨hOT.own HS10.out.2.1.1 (fun g e => hneS g (HU1.out g e).2), hOT.own HS10.out.2.1.2 (fun g e => hneS g (HU2.out g e).2)⟩⟩
  have HI11 : Hid (InR w11 (.slice r1 m1.cells.length s1) cellL 4 (markL markCell 4 1 m1.cells.length) ∧ InR w11 (.slice r2 m1.roots.length s2) intL 1 (markL markInt 1 (1 + 4 * (m1.cells.length : Int)) m1.roots.length)) := ⟨hO11.inR cellL_len, hO12.inR intL_len⟩
  have hB11 : Below (w.heap.size + 1) (w.alloc (.cells #[.int .i64 m.old, .slice o1 m.cells.length c1, .slice o2 m.roots.length c2] 44)) w11 := hOT.below hB10' hs10 (fun k e => by have := HY1.out k e; omega) (fun k e => by have := HY2.out k e; omega)
  have hs11 := (HF.out w11 hB11).2.2.1
  have hs11z := hOT.size
  have HC9 := hideT' (heldHeap_in m1.old _ _ m1.cells.length m1.roots.length 1 w11 (by omega) (by omega) HI11.out.1 HI11.out.2)
  have hrb := HS11.out.1.2
  have j0 : w11.cell? ⟨w6.heap.size, 0, none⟩ = some (.int .i64 m1.old) := by rw [cell_of_row w11 _ _ _ _ _ hrb]; rfl
  have j1 : w11.cell? ⟨w6.heap.size, 1, none⟩ = some (.slice r1 m1.cells.length s1) := by rw [cell_of_row w11 _ _ _ _ _ hrb]; rfl
  have j2 : w11.cell? ⟨w6.heap.size, 2, none⟩ = some (.slice r2 m1.roots.length s2) := by rw [cell_of_row w11 _ _ _ _ _ hrb]; rfl
  clear hOT hneY hneS hO11 hO12 x0 x1 x2 hrb HS10
  go_wp2_with fail
  refine HC9.out.mono ?_
  rintro e w12 ⟨rfl, hB12⟩
  rw [← HN.out]
  have hB12' := hB11.trans (hB12.mono hs11)
  obtain ⟨⟨y0, y1, y2⟩, hT12, hs12, _⟩ := HF.out w12 hB12'
  have hs12z := hB12.size
  have HS12 : Hid ((RowAt w12 w3.heap.size 48 #[.int .i64 m1.old, .slice p1 m1.cells.length q1, .slice p2 m1.roots.length q2] ∧ RowAt w12 w6.heap.size 48 #[.int .i64 m1.old, .slice r1 m1.cells.length s1, .slice r2 m1.roots.length s2]) ∧ (OwnR w12 w2.heap.size (.slice p1 m1.cells.length q1) 59 cellL 4 m1.cells ∧ OwnR w12 w2.heap.size (.slice p2 m1.roots.length q2) 3 intL 1 m1.roots)) :=
    ⟨⟨HS11.out.1.1.below hB12 (by omega), HS11.out.1.2.below hB12 (by omega)⟩, ⟨OwnR.below HS11.out.2.1 hB12 (Nat.le_refl _), OwnR.below HS11.out.2.2 hB12 (Nat.le_refl _)⟩⟩
  have HI12 := hideT' (And.intro (HI11.out.1.below hB12) (HI11.out.2.below hB12))
  have HC10 := hideT' (toHeap_any m _ _ w12 (HV.out.below hT12) HSM.out.1 HSM.out.2)
  have hNN : (N != N) = false := by simp
  clear hB12 j0 j1 j2 HS11 HI11
  go_wp2_with fail
  refine HC10.out.mono ?_
  rintro e w13 ⟨⟨b13, c13, rfl, hb13, hc13, hM13⟩, hB13⟩
  have hB13' := hB12'.trans (hB13.mono hs12)
  have hs13 := (HF.out w13 hB13').2.2.1
  have hs13z := hB13.size
  have HC11 := hideT' (implMinorCollect_any m b13 c13 w13 HSM.out hM13)
  have HS13 : Hid ((RowAt w13 w3.heap.size 48 #[.int .i64 m1.old, .slice p1 m1.cells.length q1, .slice p2 m1.roots.length q2] ∧ RowAt w13 w6.heap.size 48 #[.int .i64 m1.old, .slice r1 m1.cells.length s1, .slice r2 m1.roots.length s2]) ∧ (OwnR w13 w2.heap.size (.slice p1 m1.cells.length q1) 59 cellL 4 m1.cells ∧ OwnR w13 w2.heap.size (.slice p2 m1.roots.length q2) 3 intL 1 m1.roots)) :=
    ⟨⟨HS12.out.1.1.below hB13 (by omega), HS12.out.1.2.below hB13 (by omega)⟩, ⟨OwnR.below HS12.out.2.1 hB13 (Nat.le_refl _), OwnR.below HS12.out.2.2 hB13 (Nat.le_refl _)⟩⟩
  have HI13 := hideT' (And.intro (HI12.out.1.below hB13) (HI12.out.2.below hB13))
  clear hB13 hM13 y0 y1 y2 HS12 HI12
  go_wp2_with fail
  refine HC11.out.mono ?_
  rintro e w14 ⟨⟨m3, y1, y2, rfl, hm3, hO1, hO2⟩, hB14⟩
  obtain rfl : m1 = m3 := by rw [hm3, HM1.out]
  obtain ⟨t1, t2, hv1⟩ := own_formX hO1
  obtain ⟨t3, t4, hv2⟩ := own_formX hO2
  subst hv1 hv2
  rw [← HQ.out]
  have hB14' := hB13'.trans (hB14.mono hs13)
  have hs14 := (HF.out w14 hB14').2.2.1
  have hs14z := hB14.size
  have hBn14 : Below w14.heap.size w14 (w14.alloc (.cells #[.int .i64 m1.old, .slice t1 m1.cells.length t2, .slice t3 m1.roots.length t4] 48)) := (Below.refl _ _).alloc (Nat.le_refl _) _
  have hB15' := hB14'.trans (hBn14.mono hs14)
  have hs15 := (HF.out _ hB15').2.2.1
  obtain ⟨W15, hW15⟩ : ∃ W15, W15 = w14.alloc (.cells #[.int .i64 m1.old, .slice t1 m1.cells.length t2, .slice t3 m1.roots.length t4] 48) := ⟨_, rfl⟩
  rw [← hW15] at hBn14 hB15' hs15
  have HS15 : Hid ((RowAt W15 w3.heap.size 48 #[.int .i64 m1.old, .slice p1 m1.cells.length q1, .slice p2 m1.roots.length q2] ∧ RowAt W15 w6.heap.size 48 #[.int .i64 m1.old, .slice r1 m1.cells.length s1, .slice r2 m1.roots.length s2]) ∧ (OwnR W15 w2.heap.size (.slice p1 m1.cells.length q1) 59 cellL 4 m1.cells ∧ OwnR W15 w2.heap.size (.slice p2 m1.roots.length q2) 3 intL 1 m1.roots)) :=
    ⟨⟨(HS13.out.1.1.below hB14 (by omega)).below hBn14 (by omega), (HS13.out.1.2.below hB14 (by omega)).below hBn14 (by omega)⟩, ⟨OwnR.below (OwnR.below HS13.out.2.1 hB14 (Nat.le_refl _)) hBn14 (Nat.le_refl _), OwnR.below (OwnR.below HS13.out.2.2 hB14 (Nat.le_refl _)) hBn14 (Nat.le_refl _)⟩⟩
  have HI15 := hideT' (And.intro ((HI13.out.1.below hB14).below hBn14) ((HI13.out.2.below hB14).below hBn14))
  have HC12 := hideT' (eqHeap_in m1 _ _ _ _ W15 (by omega) (by omega) ⟨OwnR.inR (l := m1.cells) (OwnR.below (l := m1.cells) hO1 hBn14 (Nat.le_refl _)) cellL_len, OwnR.inR (l := m1.roots) (OwnR.below (l := m1.roots) hO2 hBn14 (Nat.le_refl _)) intL_len⟩ ⟨HS15.out.2.1.inR cellL_len, HS15.out.2.2.inR intL_len⟩)
  have hr14 := HS13.out.1.1.below hB14 (by omega)
  have z0 : w14.cell? ⟨w3.heap.size, 0, none⟩ = some (.int .i64 m1.old) := by rw [cell_of_row w14 _ _ _ _ _ hr14]; rfl
  have z1 : w14.cell? ⟨w3.heap.size, 1, none⟩ = some (.slice p1 m1.cells.length q1) := by rw [cell_of_row w14 _ _ _ _ _ hr14]; rfl
  have z2 : w14.cell? ⟨w3.heap.size, 2, none⟩ = some (.slice p2 m1.roots.length q2) := by rw [cell_of_row w14 _ _ _ _ _ hr14]; rfl
  have hl314 : w3.heap.size < w14.heap.size := by omega
  have HW15 := hideT' hW15
  clear hB14 hO1 hO2 hm3 hr14 hBn14 hW15 HS13 HI13
  go_wp2_with fail
  rw [← HW15.out]
  refine HC12.out.mono ?_
  rintro e w16 ⟨rfl, hB16⟩
  have hB16' := hB15'.trans (hB16.mono hs15)
  have hs16 := (HF.out w16 hB16').2.2.1
  have HC13 := hideT' (heldHeap_in m1.old _ _ m1.cells.length m1.roots.length 1 w16 (by omega) (by omega) (HI15.out.1.below hB16) (HI15.out.2.below hB16))
  have hrb := HS15.out.1.2.below hB16 (RowAt.lt HS15.out.1.2)
  have j0 : w16.cell? ⟨w6.heap.size, 0, none⟩ = some (.int .i64 m1.old) := by rw [cell_of_row w16 _ _ _ _ _ hrb]; rfl
  have j1 : w16.cell? ⟨w6.heap.size, 1, none⟩ = some (.slice r1 m1.cells.length s1) := by rw [cell_of_row w16 _ _ _ _ _ hrb]; rfl
  have j2 : w16.cell? ⟨w6.heap.size, 2, none⟩ = some (.slice r2 m1.roots.length s2) := by rw [cell_of_row w16 _ _ _ _ _ hrb]; rfl
  clear hB16 hrb z0 z1 z2
  go_wp2_with fail
  refine HC13.out.mono ?_
  rintro e w17 ⟨rfl, hB17⟩
  rw [← HN.out]
  have hT17 := (HF.out _ (hB16'.trans (hB17.mono hs16))).2.1
  go_wp2
  go_ret
  exact ⟨rfl, hT17⟩

set_option maxRecDepth 100000 in
theorem lifted (os : Os) (started : os.Started) (H : Type) (enc : TypeId × Value → H) :
    ReturnsInHanded {} Try.checked os 11 .any (Rows.fnExactMinorCollectSpec.pre6 enc Try.prog Try.f11 Rows.fnExactMinorCollectRow.domain false) (Rows.fnExactMinorCollectSpec.post enc Try.prog Try.f11 false true false false) := by
  refine returnsInHanded_of_change (C := Try.checked) own started (by kernel_rfl) Try.func11
    (ChangeSpec.witness6 (enc := enc) (C := Try.checked) false ⟨#[], #[.agg #[.int .i64 0, .slice none 0 0, .slice none 0 0]], []⟩ 8 (by kernel_rfl) (by kernel_rfl) (by kernel_rfl) (by kernel_rfl)) ?_
  intro W base args ds gs before hval0 hW hcnd _
  have hval : ∀ (j : Nat) t v, Try.f11.params[j]? = some t → args[j]? = some v → Value.okWide Try.prog W .any base t v := hval0
  have hW' := hW
  obtain ⟨p, q, hA0, hV, rfl, hfz, hnd⟩ := hW
  have hA : DataW.TrodAll enc Try.prog W 0 (fun _ => true) true Try.f11.params.toList args.toList ds p := hA0
  rw [Try.params11] at hA hval
  obtain ⟨v0, vs0, d0, ds0, p0, q0, hargs, rfl, rfl, h0, r0⟩ := trodAll_cons hA
  obtain ⟨rfl, rfl, rfl⟩ := trodAll_nil r0
  obtain rfl : args = #[v0] := by cases args; simp_all
  obtain ⟨rfl, rfl⟩ := trodVars_none hV
  obtain ⟨m0, vl0, vr0, rfl, g0, s0, n0⟩ := open_heap (hval 0 44 v0 rfl rfl) h0
  clear hA0 hval0
  simp only [List.append_nil] at hW'
  have lt0 : ∀ x ∈ p0, x.block < W.heap.size := fun x hx => hW'.lt x (by simp [hx])
  refine (walk m0 vl0 vr0 W g0 s0).mono fun e W' ⟨he, bel⟩ => ?_
  subst he
  exact ⟨_, rfl, _, _, _, [], _, [], hW', (trodAll_cons_mk (shut_bool Try.underlying4 _) trodAll_mk0), (trodAll_cons_mk (Below.trod laidOutR (by kernel_rfl) (of_decide_eq_true (by kernel_rfl)) h0 bel lt0) trodAll_mk0), rfl, bel.frame _, fun h => by cases h⟩

theorem over : Rows.fnExactMinorCollectRow.holds Try.pinned (OpenSpec.ofChange Rows.fnExactMinorCollectSpec) :=
  OpenClaim.holds_of_wide 11 Try.f11 rfl rfl rfl rfl rfl rfl rfl ⟨rfl, rfl, rfl, rfl, rfl⟩ rfl rfl rfl rfl rfl (by kernel_rfl) Try.func11 (by kernel_rfl)
    (of_decide_eq_true (by kernel_rfl)) (by unfold Func.isWrapper; first | (rw [if_pos (by decide +kernel)]; kernel_rfl) | (rw [if_neg (by decide +kernel)]; exact ⟨rfl, rfl⟩))
    (fun os started H enc _ => lifted os started H enc)

end Go.Proofs.Ytoaancgmahdbnaa.fnExactMinorCollect

namespace Go.Proofs.Ytoaancgmahdbnaa
theorem minorCollect_holds : Rows.FnExactMinorCollectSaid := fnExactMinorCollect.over
#print axioms minorCollect_holds
end Go.Proofs.Ytoaancgmahdbnaa
