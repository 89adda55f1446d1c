/-
  Proved: for all arguments that can be read, laws.FnExactSetPart answers true (SetPart answers as its model, and its answer owns its memory), and its arguments read behind the call as before.
  No condition but the row's own. The frame is the one that the guide's program wrote.
-/
import Derived.Test.YtoaancgmahdbnaaRows
import Derived.Test.YtoaancgmahdbnaaYgSetS
import Derived.Test.YtoaancgmahdbnaaYgOut
import Derived.WalkKit
import Derived.ProofKit
import Derived.OpenShut
import Derived.ShutString
import Derived.ChangeOld
import Derived.Below
import Derived.Carry
namespace Go.Proofs.Ytoaancgmahdbnaa.fnExactSetPart
open Go.ChangeShapes Go.WideShapes Go.ChangeAt Go.RowKit
open Go.ChangeMaps (open_string shut_string)
set_option linter.unusedVariables false

theorem own : ownKnob Try.prog.godebug = none := by kernel_rfl

set_option maxHeartbeats 4000000 in
set_option maxRecDepth 100000 in
theorem walk (m : Yg) (x1 : Int) (x2 : Bool) (x3 : Int) (vl vr vn : Value) (w : World) (hv : YgIn w vl vr vn m) (hs : YgSmall m maxLen) :
    Calls Try.prog 7 #[.agg #[.int .i64 m.h.old, vl, vr, vn], .int .i64 x1, .bool x2, .int .i64 x3] w fun e w' => e = .returned (.bool true) ∧ Below w.heap.size w w' := by
  obtain ⟨o1, c1, e1⟩ := hv.1.1.len
  obtain ⟨o2, c2, e2⟩ := hv.1.2.len
  obtain ⟨o3, c3, e3⟩ := hv.2.len
  subst e1 e2 e3
  have hR := RowAt.new w 25 #[.int .i64 m.h.old, .slice o1 m.h.cells.length c1, .slice o2 m.h.roots.length c2, .slice o3 m.noted.length c3]
  have hB0 : Below w.heap.size w (w.alloc (.cells #[.int .i64 m.h.old, .slice o1 m.h.cells.length c1, .slice o2 m.h.roots.length c2, .slice o3 m.noted.length c3] 25)) := (Below.refl _ _).alloc (Nat.le_refl _) _
  have HV := hideT' hv
  have HR := hideT' hR
  have hzm := zero_yg.1
  have HC1 := hideT' (szYoung_any m _ _ _ _ (hv.below hB0) hs)
  -- what every later world knows
  have HF : Hid (∀ w', Below (w.heap.size + 1) (w.alloc (.cells #[.int .i64 m.h.old, .slice o1 m.h.cells.length c1, .slice o2 m.h.roots.length c2, .slice o3 m.noted.length c3] 25)) w' → (w'.cell? ⟨w.heap.size, 0, none⟩ = some (.int .i64 m.h.old) ∧ w'.cell? ⟨w.heap.size, 1, none⟩ = some (.slice o1 m.h.cells.length c1) ∧ w'.cell? ⟨w.heap.size, 2, none⟩ = some (.slice o2 m.h.roots.length c2) ∧ w'.cell? ⟨w.heap.size, 3, none⟩ = some (.slice o3 m.noted.length c3)) ∧ Below w.heap.size w w' ∧ w.heap.size + 1 ≤ w'.heap.size ∧ RowAt w' w.heap.size 25 #[.int .i64 m.h.old, .slice o1 m.h.cells.length c1, .slice o2 m.h.roots.length c2, .slice o3 m.noted.length c3]) := by
    intro w' h
    have hr := RowAt.below HR.out h (by omega)
    refine ⟨⟨?_, ?_, ?_, ?_⟩, hB0.trans (h.mono (by omega)), by have := h.size; simpa using this, hr⟩ <;> (rw [cell_of_row w' _ _ _ _ _ hr]; rfl)
  clear hv hs hR hB0
  go_enter Try.func7, Try.ntmps7
  go_wp2_with fail
  refine HC1.out.mono ?_
  rintro e w1 ⟨⟨r, rfl, hr⟩, hB1⟩
  have hB1' : Below (w.heap.size + 1) (w.alloc (.cells #[.int .i64 m.h.old, .slice o1 m.h.cells.length c1, .slice o2 m.h.roots.length c2, .slice o3 m.noted.length c3] 25)) w1 := hB1.mono (by simp)
  obtain ⟨⟨f0, f1, f2, f3⟩, hT1, hs1, _⟩ := HF.out w1 hB1'
  rcases hr with rfl | ⟨hr0, hsm⟩
  · go_wp2
    go_ret
    exact ⟨rfl, hT1⟩
  have hrn : ¬ r < 0 := by omega
  have HSM := hideT' hsm
  have HC2 := hideT' (toYoung_any m _ _ _ w1 (HV.out.below hT1) hsm)
  clear hsm hB1
  go_wp2_with fail
  refine HC2.out.mono ?_
  rintro e w2 ⟨⟨b2, c2', d2', rfl, hb2, hc2, hd2, hcd2, hM2⟩, hB2⟩
  have hB2' := hB1'.trans (hB2.mono hs1)
  obtain ⟨⟨g0, g1, g2, g3⟩, hT2, hs2, _⟩ := HF.out w2 hB2'
  have HC3 := hideT' (specSetPart_any m x1 x2 x3 _ _ _ _ _ _ w2 HSM.out hM2.rd)
  clear hB2 hM2 f0 f1 f2 f3
  go_wp2_with fail
  refine HC3.out.mono ?_
  rintro e w3 ⟨⟨u1, u2, u3, rfl, hO⟩, hB3⟩
  obtain ⟨m1, hm1⟩ : ∃ m1, m1 = setOut m x1 x2 x3 := ⟨_, rfl⟩
  rw [← hm1] at hO ⊢
  obtain ⟨q, hq⟩ : ∃ q, q = (ygOk m && canS m.h x1 x3) := ⟨_, rfl⟩
  rw [← hq]
  have HQ := hideT' hq
  have HM1 := hideT' hm1
  have hsm1 : YgSmall m1 1048576 := by rw [hm1]; exact setOut_small x1 x2 x3 HSM.out
  obtain ⟨⟨hn1, hn2⟩, hn3⟩ := id hsm1
  have HSM1 := hideT' hsm1
  obtain ⟨p1, q1, p2, q2, p3, q3, e1, e2, e3⟩ := hO.form
  subst e1 e2 e3
  have hB3' := hB2'.trans (hB3.mono hs2)
  have hBn3 : Below w3.heap.size w3 (w3.alloc (.cells #[.int .i64 m1.h.old, .slice p1 m1.h.cells.length q1, .slice p2 m1.h.roots.length q2, .slice p3 m1.noted.length q3] 30)) := (Below.refl _ _).alloc (Nat.le_refl _) _
  have hs3 := (HF.out w3 hB3').2.2.1
  have hB3n := hB3'.trans (hBn3.mono hs3)
  obtain ⟨⟨k0, k1, k2, k3⟩, hT3, hs3n, _⟩ := HF.out _ hB3n
  have HU := hideT' hO.lt
  have hR3 := RowAt.new w3 30 #[.int .i64 m1.h.old, .slice p1 m1.h.cells.length q1, .slice p2 m1.h.roots.length q2, .slice p3 m1.noted.length q3]
  have HS3 := hideT' (And.intro hR3 (hO.below hBn3))
  have HC4 := hideT' (toYoung_any m _ _ _ (w3.alloc (.cells #[.int .i64 m1.h.old, .slice p1 m1.h.cells.length q1, .slice p2 m1.h.roots.length q2, .slice p3 m1.noted.length q3] 30)) (HV.out.below hT3) HSM.out)
  clear hq hB3 g0 g1 g2 g3 hO hm1 hR3 hBn3 hB3' hsm1
  go_wp2_with fail
  refine HC4.out.mono ?_
  rintro e w4 ⟨⟨b4, c4, d4, rfl, hb4, hc4, hd4, hcd4, hM4⟩, hB4⟩
  simp only [World.size_alloc] at hb4 hc4 hd4
  have hs34 := hB4.size
  simp only [World.size_alloc] at hs34
  have hB4' := hB3n.trans (hB4.mono hs3n)
  have hs4 := (HF.out w4 hB4').2.2.1
  obtain ⟨l4b, l4c, l4d⟩ := hM4.lt
  have hBn : Below w4.heap.size w4 (w4.alloc (.cells #[.int .i64 m.h.old, slR b4 m.h.cells, slR c4 m.h.roots, slR d4 m.noted] 30)) := (Below.refl _ _).alloc (Nat.le_refl _) _
  have hB5' := hB4'.trans (hBn.mono hs4)
  have hRx := RowAt.new w4 30 #[.int .i64 m.h.old, slR b4 m.h.cells, slR c4 m.h.roots, slR d4 m.noted]
  have hM5 := hM4.below hBn l4b l4c l4d
  have HC5 := hideT' (implSetPart_any m x1 x2 x3 b4 c4 d4 (w4.alloc (.cells #[.int .i64 m.h.old, slR b4 m.h.cells, slR c4 m.h.roots, slR d4 m.noted] 30)) HSM.out hM5)
  have HS5 : Hid (RowAt (w4.alloc (.cells #[.int .i64 m.h.old, slR b4 m.h.cells, slR c4 m.h.roots, slR d4 m.noted] 30)) w3.heap.size 30 #[.int .i64 m1.h.old, .slice p1 m1.h.cells.length q1, .slice p2 m1.h.roots.length q2, .slice p3 m1.noted.length q3] ∧ YgO (w4.alloc (.cells #[.int .i64 m.h.old, slR b4 m.h.cells, slR c4 m.h.roots, slR d4 m.noted] 30)) w2.heap.size (.slice p1 m1.h.cells.length q1) (.slice p2 m1.h.roots.length q2) (.slice p3 m1.noted.length q3) m1 ∧ RowAt (w4.alloc (.cells #[.int .i64 m.h.old, slR b4 m.h.cells, slR c4 m.h.roots, slR d4 m.noted] 30)) w4.heap.size 30 #[.int .i64 m.h.old, slR b4 m.h.cells, slR c4 m.h.roots, slR d4 m.noted] ∧ YgAt (w4.alloc (.cells #[.int .i64 m.h.old, slR b4 m.h.cells, slR c4 m.h.roots, slR d4 m.noted] 30)) b4 c4 d4 m) :=
    ⟨(HS3.out.1.below hB4 (by simp)).below hBn (by omega), (HS3.out.2.below hB4).below hBn, hRx, hM5⟩
  have hs5 := (HF.out _ hB5').2.2.1
  clear hB4 hM4 hRx hM5 k0 k1 k2 k3 hBn HS3
  go_wp2_with fail
  refine HC5.out.mono ?_
  rintro e w6 ⟨⟨y1, y2, y3, rfl, hO⟩, hB6⟩
  rw [← HM1.out] at hO ⊢
  rw [← HQ.out]
  obtain ⟨r1, s1, r2, s2, r3, s3, e1, e2, e3⟩ := hO.form
  subst e1 e2 e3
  have hs6 := hB6.size
  simp only [World.size_alloc] at hs6
  have hO' : YgO w6 (w4.heap.size + 1) (.slice r1 m1.h.cells.length s1) (.slice r2 m1.h.roots.length s2) (.slice r3 m1.noted.length s3) m1 := by have h := hO; rw [World.size_alloc] at h; exact h
  have HY := hideT' hO'.lt
  have hB6' := hB5'.trans (hB6.mono hs5)
  have hBn6 : Below w6.heap.size w6 (w6.alloc (.cells #[.int .i64 m1.h.old, .slice r1 m1.h.cells.length s1, .slice r2 m1.h.roots.length s2, .slice r3 m1.noted.length s3] 30)) := (Below.refl _ _).alloc (Nat.le_refl _) _
  have hB7' := hB6'.trans (hBn6.mono (by omega))
  obtain ⟨W7, hW7⟩ : ∃ W7, W7 = w6.alloc (.cells #[.int .i64 m1.h.old, .slice r1 m1.h.cells.length s1, .slice r2 m1.h.roots.length s2, .slice r3 m1.noted.length s3] 30) := ⟨_, rfl⟩
  rw [← hW7] at hBn6 hB7'
  have hsW7 : W7.heap.size = w6.heap.size + 1 := by rw [hW7]; simp
  have hGB : RowAt W7 w6.heap.size 30 #[.int .i64 m1.h.old, .slice r1 m1.h.cells.length s1, .slice r2 m1.h.roots.length s2, .slice r3 m1.noted.length s3] := by rw [hW7]; exact RowAt.new _ _ _
  have HS7 : Hid ((RowAt W7 w3.heap.size 30 #[.int .i64 m1.h.old, .slice p1 m1.h.cells.length q1, .slice p2 m1.h.roots.length q2, .slice p3 m1.noted.length q3] ∧ RowAt W7 w4.heap.size 30 #[.int .i64 m.h.old, slR b4 m.h.cells, slR c4 m.h.roots, slR d4 m.noted] ∧ RowAt W7 w6.heap.size 30 #[.int .i64 m1.h.old, .slice r1 m1.h.cells.length s1, .slice r2 m1.h.roots.length s2, .slice r3 m1.noted.length s3]) ∧ (YgO W7 w2.heap.size (.slice p1 m1.h.cells.length q1) (.slice p2 m1.h.roots.length q2) (.slice p3 m1.noted.length q3) m1 ∧ YgO W7 (w4.heap.size + 1) (.slice r1 m1.h.cells.length s1) (.slice r2 m1.h.roots.length s2) (.slice r3 m1.noted.length s3) m1) ∧ YgAt W7 b4 c4 d4 m) :=
    ⟨⟨(HS5.out.1.below hB6 (by simp; omega)).below hBn6 (by omega), (HS5.out.2.2.1.below hB6 (by simp)).below hBn6 (by omega), hGB⟩, ⟨(HS5.out.2.1.below hB6).below hBn6, hO'.below hBn6⟩, (HS5.out.2.2.2.below hB6 (by simp; omega) (by simp; omega) (by simp; omega)).below hBn6 (by omega) (by omega) (by omega)⟩
  have hqq : (q != q) = false := by cases q <;> rfl
  have HC6 := hideT' (eqYoung_in m1 _ _ _ _ _ _ W7 HSM1.out HS7.out.2.1.2.rd HS7.out.2.1.1.rd)
  have HW7 := hideT' hW7
  have hr6 := HS5.out.1.below hB6 (by simp; omega)
  have z0 : w6.cell? ⟨w3.heap.size, 0, none⟩ = some (.int .i64 m1.h.old) := by rw [cell_of_row w6 _ _ _ _ _ hr6]; rfl
  have z1 : w6.cell? ⟨w3.heap.size, 1, none⟩ = some (.slice p1 m1.h.cells.length q1) := by rw [cell_of_row w6 _ _ _ _ _ hr6]; rfl
  have z2 : w6.cell? ⟨w3.heap.size, 2, none⟩ = some (.slice p2 m1.h.roots.length q2) := by rw [cell_of_row w6 _ _ _ _ _ hr6]; rfl
  have z3 : w6.cell? ⟨w3.heap.size, 3, none⟩ = some (.slice p3 m1.noted.length q3) := by rw [cell_of_row w6 _ _ _ _ _ hr6]; rfl
  have hl36 : w3.heap.size < w6.heap.size := by omega
  clear hB6 hB4' hB5' hO hO' hGB hBn6 hB6' hW7 HS5 hr6
  go_wp2_with fail
  rw [← HW7.out]
  refine HC6.out.mono ?_
  rintro e W6 ⟨rfl, hBb⟩
  have hB6b := hB7'.trans (hBb.mono (by omega))
  have hs6b := hBb.size
  have hX6 := RowAt.below HS7.out.1.2.1 hBb (by omega)
  have hM6 := HS7.out.2.2.below hBb (by omega) (by omega) (by omega)
  have HSb : Hid ((RowAt W6 w3.heap.size 30 #[.int .i64 m1.h.old, .slice p1 m1.h.cells.length q1, .slice p2 m1.h.roots.length q2, .slice p3 m1.noted.length q3] ∧ RowAt W6 w6.heap.size 30 #[.int .i64 m1.h.old, .slice r1 m1.h.cells.length s1, .slice r2 m1.h.roots.length s2, .slice r3 m1.noted.length s3]) ∧ YgO W6 w2.heap.size (.slice p1 m1.h.cells.length q1) (.slice p2 m1.h.roots.length q2) (.slice p3 m1.noted.length q3) m1 ∧ YgO W6 (w4.heap.size + 1) (.slice r1 m1.h.cells.length s1) (.slice r2 m1.h.roots.length s2) (.slice r3 m1.noted.length s3) m1) := ⟨⟨HS7.out.1.1.below hBb (by omega), HS7.out.1.2.2.below hBb (by omega)⟩, HS7.out.2.1.1.below hBb, HS7.out.2.1.2.below hBb⟩
  clear hBb HS7 z0 z1 z2 z3
  obtain ⟨_, hT6, _, hR6⟩ := HF.out W6 hB6b
  go_wp2_with fail
  have hS : (RowAt W6.drew w4.heap.size 30 #[.int .i64 m.h.old, slR b4 m.h.cells, slR c4 m.h.roots, slR d4 m.noted] ∧ RowAt W6.drew w.heap.size 25 #[.int .i64 m.h.old, .slice o1 m.h.cells.length c1, .slice o2 m.h.roots.length c2, .slice o3 m.noted.length c3]) ∧ YgAt W6.drew b4 c4 d4 m := ⟨⟨hX6, hR6⟩, hM6⟩
  refine held_begin (fun w' => (RowAt w' w4.heap.size 30 #[.int .i64 m.h.old, slR b4 m.h.cells, slR c4 m.h.roots, slR d4 m.noted] ∧ RowAt w' w.heap.size 25 #[.int .i64 m.h.old, .slice o1 m.h.cells.length c1, .slice o2 m.h.roots.length c2, .slice o3 m.noted.length c3]) ∧ YgAt w' b4 c4 d4 m) (by kernel_rfl) ?_
  refine held_valS 0 (some 53) rfl rfl (by kernel_rfl) (by kernel_rfl) (by kernel_rfl) noPanic_put rfl (.agg (ygC b4 c4 d4 m)) (fun w' h => run_loadRow (.tmp 12) 30 rfl w4.heap.size rfl _ _ h.1.1 Try.underlying30 zero_yg.2) hS ?_
  simp only [Act.put, List.setIfInBounds_toArray, List.set_cons_zero, List.set_cons_succ]
  refine held_valS 1 (some 54) rfl rfl (by kernel_rfl) (by kernel_rfl) (by kernel_rfl) noPanic_put rfl (.agg #[.int .i64 m.h.old, .slice o1 m.h.cells.length c1, .slice o2 m.h.roots.length c2, .slice o3 m.noted.length c3]) (fun w' h => run_loadRow (.tmp 4) 25 rfl w.heap.size rfl _ _ h.1.2 Try.underlying25 size_lyg) hS ?_
  simp only [Act.put, List.setIfInBounds_toArray, List.set_cons_zero, List.set_cons_succ]
  refine held_call 2 (some 55) (by kernel_rfl) rfl rfl rfl 14 #[.agg #[.int .i64 m.h.old, .slice o1 m.h.cells.length c1, .slice o2 m.h.roots.length c2, .slice o3 m.noted.length c3]] (by go_simp) _ (toYoung_any m _ _ _ W6.drew (HV.out.below hT6.drew) HSM.out) ?_
  rintro e w7 ⟨⟨b7, c7, d7, rfl, hb7, hc7, hd7, hcd7, hM7⟩, hB7⟩
  have hB7 : Below W6.heap.size W6 w7 := ⟨hB7.os, hB7.tape, hB7.output, hB7.size, hB7.block⟩
  obtain ⟨l6b, l6c, l6d⟩ := hM6.lt
  have hT7 := hT6.trans (hB7.mono hT6.size)
  have hM67 := hM6.below hB7 l6b l6c l6d
  have hS7 : (RowAt w7 w4.heap.size 30 #[.int .i64 m.h.old, slR b4 m.h.cells, slR c4 m.h.roots, slR d4 m.noted] ∧ RowAt w7 w.heap.size 25 #[.int .i64 m.h.old, .slice o1 m.h.cells.length c1, .slice o2 m.h.roots.length c2, .slice o3 m.noted.length c3]) ∧ YgAt w7 b4 c4 d4 m := ⟨⟨RowAt.below hX6 hB7 (RowAt.lt hX6), RowAt.below hR6 hB7 (RowAt.lt hR6)⟩, hM67⟩
  refine ⟨_, rfl, hS7, ?_⟩
  simp only [Act.put, List.setIfInBounds_toArray, List.set_cons_zero, List.set_cons_succ]
  refine held_call 3 (some 56) (by kernel_rfl) rfl rfl rfl 16 #[.agg (ygC b4 c4 d4 m), .agg (ygC b7 c7 d7 m)] (by go_simp) _ (eqYoung_in m _ _ _ _ _ _ w7 HSM.out hM67.rd hM7.rd) ?_
  rintro e w8 ⟨rfl, hB8⟩
  have hT8 := hT7.trans (hB8.mono hT7.size)
  obtain ⟨l7b, l7c, l7d⟩ := hM67.lt
  have hS8 : (RowAt w8 w4.heap.size 30 #[.int .i64 m.h.old, slR b4 m.h.cells, slR c4 m.h.roots, slR d4 m.noted] ∧ RowAt w8 w.heap.size 25 #[.int .i64 m.h.old, .slice o1 m.h.cells.length c1, .slice o2 m.h.roots.length c2, .slice o3 m.noted.length c3]) ∧ YgAt w8 b4 c4 d4 m := ⟨⟨RowAt.below hS7.1.1 hB8 (RowAt.lt hS7.1.1), RowAt.below hS7.1.2 hB8 (RowAt.lt hS7.1.2)⟩, hM67.below hB8 l7b l7c l7d⟩
  refine ⟨_, rfl, hS8, ?_⟩
  simp only [Act.put, List.setIfInBounds_toArray, List.set_cons_zero, List.set_cons_succ]
  refine held_val 4 (some 57) rfl rfl (by kernel_rfl) (by kernel_rfl) (by kernel_rfl) noPanic_put rfl (.bool false) (fun _ => by go_simp) hS8 ?_
  simp only [Act.put, List.setIfInBounds_toArray, List.set_cons_zero, List.set_cons_succ]
  refine wpAnyH_done (by kernel_rfl) ?_ _
  refine NoPanic.normal ?_
  have hB8' : Below (w.heap.size + 1) (w.alloc (.cells #[.int .i64 m.h.old, .slice o1 m.h.cells.length c1, .slice o2 m.h.roots.length c2, .slice o3 m.noted.length c3] 25)) w8 := hB6b.trans ((hB7.mono (by omega)).trans (hB8.mono (by have := hB7.size; omega)))
  have hs7z := hB7.size
  have hs8z := hB8.size
  have g0 : RowAt w8 w4.heap.size 30 #[.int .i64 m.h.old, slR b4 m.h.cells, slR c4 m.h.roots, slR d4 m.noted] := hS8.1.1
  have d0 : w8.cell? ⟨w4.heap.size, 0, none⟩ = some (.int .i64 m.h.old) := by rw [cell_of_row w8 _ _ _ _ _ g0]; rfl
  have d1 : w8.cell? ⟨w4.heap.size, 1, none⟩ = some (slR b4 m.h.cells) := by rw [cell_of_row w8 _ _ _ _ _ g0]; rfl
  have d2 : w8.cell? ⟨w4.heap.size, 2, none⟩ = some (slR c4 m.h.roots) := by rw [cell_of_row w8 _ _ _ _ _ g0]; rfl
  have d3 : w8.cell? ⟨w4.heap.size, 3, none⟩ = some (slR d4 m.noted) := by rw [cell_of_row w8 _ _ _ _ _ g0]; rfl
  have HS8 : Hid ((RowAt w8 w3.heap.size 30 #[.int .i64 m1.h.old, .slice p1 m1.h.cells.length q1, .slice p2 m1.h.roots.length q2, .slice p3 m1.noted.length q3] ∧ RowAt w8 w6.heap.size 30 #[.int .i64 m1.h.old, .slice r1 m1.h.cells.length s1, .slice r2 m1.h.roots.length s2, .slice r3 m1.noted.length s3]) ∧ YgO w8 w2.heap.size (.slice p1 m1.h.cells.length q1) (.slice p2 m1.h.roots.length q2) (.slice p3 m1.noted.length q3) m1 ∧ YgO w8 (w4.heap.size + 1) (.slice r1 m1.h.cells.length s1) (.slice r2 m1.h.roots.length s2) (.slice r3 m1.noted.length s3) m1) :=
    ⟨⟨(HSb.out.1.1.below hB7 (by omega)).below hB8 (by omega), (HSb.out.1.2.below hB7 (by omega)).below hB8 (by omega)⟩, (HSb.out.2.1.below hB7).below hB8, (HSb.out.2.2.below hB7).below hB8⟩
  have HMK := hideT' (markYoung_own m.h.old (slR b4 m.h.cells) (slR c4 m.h.roots) (slR d4 m.noted) m.h.cells.length m.h.roots.length m.noted.length _ _ _ 1 w3.heap.size w3.heap.size w3.heap.size w8 (by omega) (by have := HSM.out.1.1; have := HSM.out.1.2; have := HSM.out.2; omega) (hS8.2.1.1.own cellL_len (by omega) (by have := HSM.out.1.1; unfold maxLen; omega)) (hS8.2.1.2.own intL_len (by omega) (by have := HSM.out.1.2; unfold maxLen; omega)) (hS8.2.2.own intL_len (by omega) (by have := HSM.out.2; unfold maxLen; omega)) (fun g e e' => hcd4 (by simp only [Value.ownBlock] at e e'; injection e with e; injection e' with e'; omega)))
  have hs8 := (HF.out w8 hB8').2.2.1
  clear hS hS7 hS8 hM67 hM7 hB7 hB8 hM6 hX6 hR6 g0 hT7 hT6 HSb
  obtain ⟨M, hM⟩ : ∃ M : Int, M = 1 + 4 * (m.h.cells.length : Int) + (m.h.roots.length : Int) + (m.noted.length : Int) := ⟨_, rfl⟩
  have hMn : ¬ M < 0 := by omega
  have HM := hideT' hM
  clear hM
  go_wp2_with fail
  refine HMK.out.mono ?_
  rintro e w9 ⟨rfl, _, hOT⟩
  rw [← HM.out]
  have hneX : ∀ g, (g < w3.heap.size + 1 ∨ w4.heap.size ≤ g) → some g ≠ (slR b4 m.h.cells).ownBlock ∧ some g ≠ (slR c4 m.h.roots).ownBlock ∧ some g ≠ (slR d4 m.noted).ownBlock := fun g hg => by
    refine ⟨fun e => ?_, fun e => ?_, fun e => ?_⟩ <;> (simp only [Value.ownBlock] at e; injection e with e; omega)
  have HS9 : Hid ((RowAt w9 w3.heap.size 30 #[.int .i64 m1.h.old, .slice p1 m1.h.cells.length q1, .slice p2 m1.h.roots.length q2, .slice p3 m1.noted.length q3] ∧ RowAt w9 w6.heap.size 30 #[.int .i64 m1.h.old, .slice r1 m1.h.cells.length s1, .slice r2 m1.h.roots.length s2, .slice r3 m1.noted.length s3]) ∧ YgO w9 w2.heap.size (.slice p1 m1.h.cells.length q1) (.slice p2 m1.h.roots.length q2) (.slice p3 m1.noted.length q3) m1 ∧ YgO w9 (w4.heap.size + 1) (.slice r1 m1.h.cells.length s1) (.slice r2 m1.h.roots.length s2) (.slice r3 m1.noted.length s3) m1) :=
    ⟨⟨hOT.row HS8.out.1.1 (hneX _ (by omega)).1 (hneX _ (by omega)).2.1 (hneX _ (by omega)).2.2, hOT.row HS8.out.1.2 (hneX _ (by omega)).1 (hneX _ (by omega)).2.1 (hneX _ (by omega)).2.2⟩, HS8.out.2.1.three hOT (fun g _ _ e => hneX g (by have := HU.out g e; omega)), HS8.out.2.2.three hOT (fun g _ _ e => hneX g (by have := HY.out g e; omega))⟩
  have hB9 : Below (w.heap.size + 1) (w.alloc (.cells #[.int .i64 m.h.old, .slice o1 m.h.cells.length c1, .slice o2 m.h.roots.length c2, .slice o3 m.noted.length c3] 25)) w9 := hOT.below hB8' hs8 (fun k e => by simp only [Value.ownBlock] at e; injection e with e; omega) (fun k e => by simp only [Value.ownBlock] at e; injection e with e; omega) (fun k e => by simp only [Value.ownBlock] at e; injection e with e; omega)
  have hs9 := (HF.out w9 hB9).2.2.1
  have hs9z := hOT.size
  have HC7 := hideT' (eqYoung_in m1 _ _ _ _ _ _ w9 HSM1.out HS9.out.2.2.rd HS9.out.2.1.rd)
  have hra := HS9.out.1.1
  have hrb := HS9.out.1.2
  have i0 : w9.cell? ⟨w3.heap.size, 0, none⟩ = some (.int .i64 m1.h.old) := by rw [cell_of_row w9 _ _ _ _ _ hra]; rfl
  have i1 : w9.cell? ⟨w3.heap.size, 1, none⟩ = some (.slice p1 m1.h.cells.length q1) := by rw [cell_of_row w9 _ _ _ _ _ hra]; rfl
  have i2 : w9.cell? ⟨w3.heap.size, 2, none⟩ = some (.slice p2 m1.h.roots.length q2) := by rw [cell_of_row w9 _ _ _ _ _ hra]; rfl
  have i3 : w9.cell? ⟨w3.heap.size, 3, none⟩ = some (.slice p3 m1.noted.length q3) := by rw [cell_of_row w9 _ _ _ _ _ hra]; rfl
  have j0 : w9.cell? ⟨w6.heap.size, 0, none⟩ = some (.int .i64 m1.h.old) := by rw [cell_of_row w9 _ _ _ _ _ hrb]; rfl
  have j1 : w9.cell? ⟨w6.heap.size, 1, none⟩ = some (.slice r1 m1.h.cells.length s1) := by rw [cell_of_row w9 _ _ _ _ _ hrb]; rfl
  have j2 : w9.cell? ⟨w6.heap.size, 2, none⟩ = some (.slice r2 m1.h.roots.length s2) := by rw [cell_of_row w9 _ _ _ _ _ hrb]; rfl
  have j3 : w9.cell? ⟨w6.heap.size, 3, none⟩ = some (.slice r3 m1.noted.length s3) := by rw [cell_of_row w9 _ _ _ _ _ hrb]; rfl
  clear hOT hneX d0 d1 d2 d3 hra hrb HS8
  go_wp2_with fail
  refine HC7.out.mono ?_
  rintro e w10 ⟨rfl, hB10⟩
  have hB10' := hB9.trans (hB10.mono hs9)
  have hs10 := (HF.out w10 hB10').2.2.1
  have hs10z := hB10.size
  have HS10 : Hid ((RowAt w10 w3.heap.size 30 #[.int .i64 m1.h.old, .slice p1 m1.h.cells.length q1, .slice p2 m1.h.roots.length q2, .slice p3 m1.noted.length q3] ∧ RowAt w10 w6.heap.size 30 #[.int .i64 m1.h.old, .slice r1 m1.h.cells.length s1, .slice r2 m1.h.roots.length s2, .slice r3 m1.noted.length s3]) ∧ YgO w10 w2.heap.size (.slice p1 m1.h.cells.length q1) (.slice p2 m1.h.roots.length q2) (.slice p3 m1.noted.length q3) m1 ∧ YgO w10 (w4.heap.size + 1) (.slice r1 m1.h.cells.length s1) (.slice r2 m1.h.roots.length s2) (.slice r3 m1.noted.length s3) m1) :=
    ⟨⟨HS9.out.1.1.below hB10 (by omega), HS9.out.1.2.below hB10 (by omega)⟩, HS9.out.2.1.below hB10, HS9.out.2.2.below hB10⟩
  have HC8 := hideT' (markYoung_own m1.h.old (.slice r1 m1.h.cells.length s1) (.slice r2 m1.h.roots.length s2) (.slice r3 m1.noted.length s3) m1.h.cells.length m1.h.roots.length m1.noted.length _ _ _ 1 (w4.heap.size + 1) (w4.heap.size + 1) (w4.heap.size + 1) w10 (by omega) (by omega) HS10.out.2.2.1.1.1 HS10.out.2.2.1.1.2 HS10.out.2.2.1.2 HS10.out.2.2.2)
  obtain ⟨N, hN⟩ : ∃ N : Int, N = 1 + 4 * (m1.h.cells.length : Int) + (m1.h.roots.length : Int) + (m1.noted.length : Int) := ⟨_, rfl⟩
  have hNn : ¬ N < 0 := by omega
  have HN := hideT' hN
  have hrb := HS10.out.1.2
  have z0 : w10.cell? ⟨w6.heap.size, 0, none⟩ = some (.int .i64 m1.h.old) := by rw [cell_of_row w10 _ _ _ _ _ hrb]; rfl
  have z1 : w10.cell? ⟨w6.heap.size, 1, none⟩ = some (.slice r1 m1.h.cells.length s1) := by rw [cell_of_row w10 _ _ _ _ _ hrb]; rfl
  have z2 : w10.cell? ⟨w6.heap.size, 2, none⟩ = some (.slice r2 m1.h.roots.length s2) := by rw [cell_of_row w10 _ _ _ _ _ hrb]; rfl
  have z3 : w10.cell? ⟨w6.heap.size, 3, none⟩ = some (.slice r3 m1.noted.length s3) := by rw [cell_of_row w10 _ _ _ _ _ hrb]; rfl
  clear hN hB10 HS9 i0 i1 i2 i3 j0 j1 j2 j3 hrb
  go_wp2_with fail
  refine HC8.out.mono ?_
  rintro e w11 ⟨rfl, ⟨⟨hO11, hO12⟩, hO13⟩, hOT⟩
  rw [← HN.out]
  have hneY : ∀ g, (g < w4.heap.size + 1 ∨ w6.heap.size ≤ g) → some g ≠ (Value.slice r1 m1.h.cells.length s1).ownBlock ∧ some g ≠ (Value.slice r2 m1.h.roots.length s2).ownBlock ∧ some g ≠ (Value.slice r3 m1.noted.length s3).ownBlock := fun g hg => by
    refine ⟨fun e => ?_, fun e => ?_, fun e => ?_⟩
    · have := HY.out g (.inl e); omega
    · have := HY.out g (.inr (.inl e)); omega
    · have := HY.out g (.inr (.inr e)); omega
  have HS11 : Hid ((RowAt w11 w3.heap.size 30 #[.int .i64 m1.h.old, .slice p1 m1.h.cells.length q1, .slice p2 m1.h.roots.length q2, .slice p3 m1.noted.length q3] ∧ RowAt w11 w6.heap.size 30 #[.int .i64 m1.h.old, .slice r1 m1.h.cells.length s1, .slice r2 m1.h.roots.length s2, .slice r3 m1.noted.length s3]) ∧ YgO w11 w2.heap.size (.slice p1 m1.h.cells.length q1) (.slice p2 m1.h.roots.length q2) (.slice p3 m1.noted.length q3) m1) :=
    ⟨⟨hOT.row HS10.out.1.1 (hneY _ (by omega)).1 (hneY _ (by omega)).2.1 (hneY _ (by omega)).2.2, hOT.row HS10.out.1.2 (hneY _ (by omega)).1 (hneY _ (by omega)).2.1 (hneY _ (by omega)).2.2⟩, HS10.out.2.1.three hOT (fun g _ _ e => hneY g (by have := HU.out g e; omega))⟩
  have HI11 : Hid ((InR w11 (.slice r1 m1.h.cells.length s1) cellL 4 (markL markCell 4 1 m1.h.cells.length) ∧ InR w11 (.slice r2 m1.h.roots.length s2) intL 1 (markL markInt 1 (1 + 4 * (m1.h.cells.length : Int)) m1.h.roots.length)) ∧ InR w11 (.slice r3 m1.noted.length s3) intL 1 (markL markInt 1 (1 + 4 * (m1.h.cells.length : Int) + (m1.h.roots.length : Int)) m1.noted.length)) := ⟨⟨hO11.inR cellL_len, hO12.inR intL_len⟩, hO13.inR intL_len⟩
  have hB11 : Below (w.heap.size + 1) (w.alloc (.cells #[.int .i64 m.h.old, .slice o1 m.h.cells.length c1, .slice o2 m.h.roots.length c2, .slice o3 m.noted.length c3] 25)) w11 := hOT.below hB10' hs10 (fun k e => by have := HY.out k (.inl e.symm); omega) (fun k e => by have := HY.out k (.inr (.inl e.symm)); omega) (fun k e => by have := HY.out k (.inr (.inr e.symm)); omega)
  have hs11 := (HF.out w11 hB11).2.2.1
  have hs11z := hOT.size
  have HC9 := hideT' (heldYoung_in m1.h.old _ _ _ m1.h.cells.length m1.h.roots.length m1.noted.length 1 w11 (by omega) (by omega) HI11.out.1.1 HI11.out.1.2 HI11.out.2)
  have hrb := HS11.out.1.2
  have j0 : w11.cell? ⟨w6.heap.size, 0, none⟩ = some (.int .i64 m1.h.old) := by rw [cell_of_row w11 _ _ _ _ _ hrb]; rfl
  have j1 : w11.cell? ⟨w6.heap.size, 1, none⟩ = some (.slice r1 m1.h.cells.length s1) := by rw [cell_of_row w11 _ _ _ _ _ hrb]; rfl
  have j2 : w11.cell? ⟨w6.heap.size, 2, none⟩ = some (.slice r2 m1.h.roots.length s2) := by rw [cell_of_row w11 _ _ _ _ _ hrb]; rfl
  have j3 : w11.cell? ⟨w6.heap.size, 3, none⟩ = some (.slice r3 m1.noted.length s3) := by rw [cell_of_row w11 _ _ _ _ _ hrb]; rfl
  clear hOT hneY hO11 hO12 hO13 z0 z1 z2 z3 hrb HS10
  go_wp2_with fail
  refine HC9.out.mono ?_
  rintro e w12 ⟨rfl, hB12⟩
  rw [← HN.out]
  have hB12' := hB11.trans (hB12.mono hs11)
  obtain ⟨⟨y0, y1, y2, y3⟩, hT12, hs12, _⟩ := HF.out w12 hB12'
  have hs12z := hB12.size
  have HS12 : Hid ((RowAt w12 w3.heap.size 30 #[.int .i64 m1.h.old, .slice p1 m1.h.cells.length q1, .slice p2 m1.h.roots.length q2, .slice p3 m1.noted.length q3] ∧ RowAt w12 w6.heap.size 30 #[.int .i64 m1.h.old, .slice r1 m1.h.cells.length s1, .slice r2 m1.h.roots.length s2, .slice r3 m1.noted.length s3]) ∧ YgO w12 w2.heap.size (.slice p1 m1.h.cells.length q1) (.slice p2 m1.h.roots.length q2) (.slice p3 m1.noted.length q3) m1) :=
    ⟨⟨HS11.out.1.1.below hB12 (by omega), HS11.out.1.2.below hB12 (by omega)⟩, HS11.out.2.below hB12⟩
  have HI12 := hideT' (And.intro (And.intro (HI11.out.1.1.below hB12) (HI11.out.1.2.below hB12)) (HI11.out.2.below hB12))
  have HC10 := hideT' (toYoung_any m _ _ _ w12 (HV.out.below hT12) HSM.out)
  have hNN : (N != N) = false := by simp
  clear hB12 j0 j1 j2 j3 HS11 HI11
  go_wp2_with fail
  refine HC10.out.mono ?_
  rintro e w13 ⟨⟨b13, c13, d13, rfl, hb13, hc13, hd13, hcd13, hM13⟩, hB13⟩
  have hB13' := hB12'.trans (hB13.mono hs12)
  have hs13 := (HF.out w13 hB13').2.2.1
  have hs13z := hB13.size
  have HC11 := hideT' (implSetPart_any m x1 x2 x3 b13 c13 d13 w13 HSM.out hM13)
  have HS13 : Hid ((RowAt w13 w3.heap.size 30 #[.int .i64 m1.h.old, .slice p1 m1.h.cells.length q1, .slice p2 m1.h.roots.length q2, .slice p3 m1.noted.length q3] ∧ RowAt w13 w6.heap.size 30 #[.int .i64 m1.h.old, .slice r1 m1.h.cells.length s1, .slice r2 m1.h.roots.length s2, .slice r3 m1.noted.length s3]) ∧ YgO w13 w2.heap.size (.slice p1 m1.h.cells.length q1) (.slice p2 m1.h.roots.length q2) (.slice p3 m1.noted.length q3) m1) :=
    ⟨⟨HS12.out.1.1.below hB13 (by omega), HS12.out.1.2.below hB13 (by omega)⟩, HS12.out.2.below hB13⟩
  have HI13 := hideT' (And.intro (And.intro (HI12.out.1.1.below hB13) (HI12.out.1.2.below hB13)) (HI12.out.2.below hB13))
  clear hB13 hM13 y0 y1 y2 y3 HS12 HI12
  go_wp2_with fail
  refine HC11.out.mono ?_
  rintro e w14 ⟨⟨y1, y2, y3, rfl, hO⟩, hB14⟩
  rw [← HM1.out] at hO ⊢
  rw [← HQ.out]
  obtain ⟨t1, t2, t3, t4, t5, t6, e1, e2, e3⟩ := hO.form
  subst e1 e2 e3
  have hB14' := hB13'.trans (hB14.mono hs13)
  have hs14 := (HF.out w14 hB14').2.2.1
  have hs14z := hB14.size
  have hBn14 : Below w14.heap.size w14 (w14.alloc (.cells #[.int .i64 m1.h.old, .slice t1 m1.h.cells.length t2, .slice t3 m1.h.roots.length t4, .slice t5 m1.noted.length t6] 30)) := (Below.refl _ _).alloc (Nat.le_refl _) _
  have hB15' := hB14'.trans (hBn14.mono hs14)
  have hs15 := (HF.out _ hB15').2.2.1
  obtain ⟨W15, hW15⟩ : ∃ W15, W15 = w14.alloc (.cells #[.int .i64 m1.h.old, .slice t1 m1.h.cells.length t2, .slice t3 m1.h.roots.length t4, .slice t5 m1.noted.length t6] 30) := ⟨_, rfl⟩
  rw [← hW15] at hBn14 hB15' hs15
  have HS15 : Hid ((RowAt W15 w3.heap.size 30 #[.int .i64 m1.h.old, .slice p1 m1.h.cells.length q1, .slice p2 m1.h.roots.length q2, .slice p3 m1.noted.length q3] ∧ RowAt W15 w6.heap.size 30 #[.int .i64 m1.h.old, .slice r1 m1.h.cells.length s1, .slice r2 m1.h.roots.length s2, .slice r3 m1.noted.length s3]) ∧ YgO W15 w2.heap.size (.slice p1 m1.h.cells.length q1) (.slice p2 m1.h.roots.length q2) (.slice p3 m1.noted.length q3) m1) :=
    ⟨⟨(HS13.out.1.1.below hB14 (by omega)).below hBn14 (by omega), (HS13.out.1.2.below hB14 (by omega)).below hBn14 (by omega)⟩, (HS13.out.2.below hB14).below hBn14⟩
  have HI15 := hideT' (And.intro (And.intro ((HI13.out.1.1.below hB14).below hBn14) ((HI13.out.1.2.below hB14).below hBn14)) ((HI13.out.2.below hB14).below hBn14))
  have HC12 := hideT' (eqYoung_in m1 _ _ _ _ _ _ W15 HSM1.out (hO.below hBn14).rd HS15.out.2.rd)
  have hr14 := HS13.out.1.1.below hB14 (by omega)
  have z0 : w14.cell? ⟨w3.heap.size, 0, none⟩ = some (.int .i64 m1.h.old) := by rw [cell_of_row w14 _ _ _ _ _ hr14]; rfl
  have z1 : w14.cell? ⟨w3.heap.size, 1, none⟩ = some (.slice p1 m1.h.cells.length q1) := by rw [cell_of_row w14 _ _ _ _ _ hr14]; rfl
  have z2 : w14.cell? ⟨w3.heap.size, 2, none⟩ = some (.slice p2 m1.h.roots.length q2) := by rw [cell_of_row w14 _ _ _ _ _ hr14]; rfl
  have z3 : w14.cell? ⟨w3.heap.size, 3, none⟩ = some (.slice p3 m1.noted.length q3) := by rw [cell_of_row w14 _ _ _ _ _ hr14]; rfl
  have hl314 : w3.heap.size < w14.heap.size := by omega
  have HW15 := hideT' hW15
  clear hB14 hO hr14 hBn14 hW15 HS13 HI13
  go_wp2_with fail
  rw [← HW15.out]
  refine HC12.out.mono ?_
  rintro e w16 ⟨rfl, hB16⟩
  have hB16' := hB15'.trans (hB16.mono hs15)
  have hs16 := (HF.out w16 hB16').2.2.1
  have HC13 := hideT' (heldYoung_in m1.h.old _ _ _ m1.h.cells.length m1.h.roots.length m1.noted.length 1 w16 (by omega) (by omega) (HI15.out.1.1.below hB16) (HI15.out.1.2.below hB16) (HI15.out.2.below hB16))
  have hrb := HS15.out.1.2.below hB16 (RowAt.lt HS15.out.1.2)
  have j0 : w16.cell? ⟨w6.heap.size, 0, none⟩ = some (.int .i64 m1.h.old) := by rw [cell_of_row w16 _ _ _ _ _ hrb]; rfl
  have j1 : w16.cell? ⟨w6.heap.size, 1, none⟩ = some (.slice r1 m1.h.cells.length s1) := by rw [cell_of_row w16 _ _ _ _ _ hrb]; rfl
  have j2 : w16.cell? ⟨w6.heap.size, 2, none⟩ = some (.slice r2 m1.h.roots.length s2) := by rw [cell_of_row w16 _ _ _ _ _ hrb]; rfl
  have j3 : w16.cell? ⟨w6.heap.size, 3, none⟩ = some (.slice r3 m1.noted.length s3) := by rw [cell_of_row w16 _ _ _ _ _ hrb]; rfl
  clear hB16 hrb z0 z1 z2 z3
  go_wp2_with fail
  refine HC13.out.mono ?_
  rintro e w17 ⟨rfl, hB17⟩
  rw [← HN.out]
  have hT17 := (HF.out _ (hB16'.trans (hB17.mono hs16))).2.1
  go_wp2
  go_ret
  exact ⟨rfl, hT17⟩

set_option maxRecDepth 100000 in
theorem lifted (os : Os) (started : os.Started) (H : Type) (enc : TypeId × Value → H) :
    ReturnsInHanded {} Try.checked os 7 .any (Rows.fnExactSetPartSpec.pre6 enc Try.prog Try.f7 Rows.fnExactSetPartRow.domain false) (Rows.fnExactSetPartSpec.post enc Try.prog Try.f7 false true false false) := by
  refine returnsInHanded_of_change (C := Try.checked) own started (by kernel_rfl) Try.func7
    (ChangeSpec.witness6 (enc := enc) (C := Try.checked) false ⟨#[], #[.agg #[.int .i64 0, .slice none 0 0, .slice none 0 0, .slice none 0 0], .int .i64 0, .bool false, .int .i64 0], []⟩ 8 (by kernel_rfl) (by kernel_rfl) (by kernel_rfl) (by kernel_rfl)) ?_
  intro W base args ds gs before hval0 hW hcnd _
  have hval : ∀ (j : Nat) t v, Try.f7.params[j]? = some t → args[j]? = some v → Value.okWide Try.prog W .any base t v := hval0
  have hW' := hW
  obtain ⟨p, q, hA0, hV, rfl, hfz, hnd⟩ := hW
  have hA : DataW.TrodAll enc Try.prog W 0 (fun _ => true) true Try.f7.params.toList args.toList ds p := hA0
  rw [Try.params7] at hA hval
  obtain ⟨v0, vs0, d0, ds0, p0, q0, hargs, rfl, rfl, h0, r0⟩ := trodAll_cons hA
  obtain ⟨v1, vs1, d1, ds1, p1, q1, rfl, rfl, rfl, h1, r1⟩ := trodAll_cons r0
  obtain ⟨v2, vs2, d2, ds2, p2, q2, rfl, rfl, rfl, h2, r2⟩ := trodAll_cons r1
  obtain ⟨v3, vs3, d3, ds3, p3, q3, rfl, rfl, rfl, h3, r3⟩ := trodAll_cons r2
  obtain ⟨rfl, rfl, rfl⟩ := trodAll_nil r3
  obtain rfl : args = #[v0, v1, v2, v3] := by cases args; simp_all
  obtain ⟨rfl, rfl⟩ := trodVars_none hV
  obtain ⟨m0, vl0, vr0, vn0, rfl, g0, s0, n0⟩ := open_young (hval 0 25 v0 rfl rfl) h0
  obtain ⟨n1, rfl, rfl, rfl, w1⟩ := open_int Try.underlying3 (hval 1 3 v1 rfl rfl) h1
  obtain ⟨n2, rfl, rfl, rfl⟩ := open_bool Try.underlying4 (hval 2 4 v2 rfl rfl) h2
  obtain ⟨n3, rfl, rfl, rfl, w3⟩ := open_int Try.underlying3 (hval 3 3 v3 rfl rfl) h3
  clear hA0 hval0
  simp only [List.append_nil] at hW'
  have lt0 : ∀ x ∈ p0, x.block < W.heap.size := fun x hx => hW'.lt x (by simp [hx])
  refine (walk m0 n1 n2 n3 vl0 vr0 vn0 W g0 s0).mono fun e W' ⟨he, bel⟩ => ?_
  subst he
  exact ⟨_, rfl, _, _, _, [], _, [], hW', (trodAll_cons_mk (shut_bool Try.underlying4 _) trodAll_mk0), (trodAll_cons_mk (Below.trod laidOutR (by kernel_rfl) (of_decide_eq_true (by kernel_rfl)) h0 bel lt0) (trodAll_cons_mk (shut_int Try.underlying3 w1) (trodAll_cons_mk (shut_bool Try.underlying4 n2) (trodAll_cons_mk (shut_int Try.underlying3 w3) trodAll_mk0)))), rfl, bel.frame _, fun h => by cases h⟩

theorem over : Rows.fnExactSetPartRow.holds Try.pinned (OpenSpec.ofChange Rows.fnExactSetPartSpec) :=
  OpenClaim.holds_of_wide 7 Try.f7 rfl rfl rfl rfl rfl rfl rfl ⟨rfl, rfl, rfl, rfl, rfl⟩ rfl rfl rfl rfl rfl (by kernel_rfl) Try.func7 (by kernel_rfl)
    (of_decide_eq_true (by kernel_rfl)) (by unfold Func.isWrapper; first | (rw [if_pos (by decide +kernel)]; kernel_rfl) | (rw [if_neg (by decide +kernel)]; exact ⟨rfl, rfl⟩))
    (fun os started H enc _ => lifted os started H enc)

end Go.Proofs.Ytoaancgmahdbnaa.fnExactSetPart

namespace Go.Proofs.Ytoaancgmahdbnaa
theorem setPart_holds : Rows.FnExactSetPartSaid := fnExactSetPart.over
#print axioms setPart_holds
end Go.Proofs.Ytoaancgmahdbnaa
