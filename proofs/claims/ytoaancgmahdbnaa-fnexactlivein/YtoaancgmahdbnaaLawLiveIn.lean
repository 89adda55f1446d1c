/-
  Proved: for all arguments that can be read, laws.FnExactLiveIn answers true (LiveIn answers as its model, and its answer owns its memory), and its arguments read behind the call as before.
  No condition but the row's own. The frame is the one that the guide's program wrote.
-/
import Derived.Test.YtoaancgmahdbnaaRows
import Derived.Test.YtoaancgmahdbnaaYgLiveIn
import Derived.Test.YtoaancgmahdbnaaYgHelp
import Derived.Test.YtoaancgmahdbnaaHeapMark
import Derived.WalkKit
import Derived.ProofKit
import Derived.OpenShut
import Derived.ShutString
import Derived.ChangeOld
import Derived.Below
import Derived.Carry
namespace Go.Proofs.Ytoaancgmahdbnaa.fnExactLiveIn
open Go.ChangeShapes Go.WideShapes Go.ChangeAt Go.RowKit
open Go.ChangeMaps (open_string shut_string)
set_option linter.unusedVariables false

theorem own : ownKnob Try.prog.godebug = none := by kernel_rfl

set_option maxHeartbeats 4000000 in
set_option maxRecDepth 100000 in
theorem walk (m : Yg) (vl vr vn : Value) (w : World) (hv : YgIn w vl vr vn m) (hs : YgSmall m maxLen) :
    Calls Try.prog 4 #[.agg #[.int .i64 m.h.old, vl, vr, vn]] w fun e w' => e = .returned (.bool true) ∧ Below w.heap.size w w' := by
  obtain ⟨o1, c1, e1⟩ := hv.1.1.len
  obtain ⟨o2, c2, e2⟩ := hv.1.2.len
  obtain ⟨o3, c3, e3⟩ := hv.2.len
  subst e1 e2 e3
  have hR := RowAt.new w 25 #[.int .i64 m.h.old, .slice o1 m.h.cells.length c1, .slice o2 m.h.roots.length c2, .slice o3 m.noted.length c3]
  have hB0 : Below w.heap.size w (w.alloc (.cells #[.int .i64 m.h.old, .slice o1 m.h.cells.length c1, .slice o2 m.h.roots.length c2, .slice o3 m.noted.length c3] 25)) := (Below.refl _ _).alloc (Nat.le_refl _) _
  have HV := hideT' hv
  have HR := hideT' hR
  have hzm := zero_yg.1
  have HC1 := hideT' (szYoung_any m _ _ _ _ (hv.below hB0) hs)
  -- what every later world knows
  have HF : Hid (∀ w', Below (w.heap.size + 1) (w.alloc (.cells #[.int .i64 m.h.old, .slice o1 m.h.cells.length c1, .slice o2 m.h.roots.length c2, .slice o3 m.noted.length c3] 25)) w' → (w'.cell? ⟨w.heap.size, 0, none⟩ = some (.int .i64 m.h.old) ∧ w'.cell? ⟨w.heap.size, 1, none⟩ = some (.slice o1 m.h.cells.length c1) ∧ w'.cell? ⟨w.heap.size, 2, none⟩ = some (.slice o2 m.h.roots.length c2) ∧ w'.cell? ⟨w.heap.size, 3, none⟩ = some (.slice o3 m.noted.length c3)) ∧ Below w.heap.size w w' ∧ w.heap.size + 1 ≤ w'.heap.size ∧ RowAt w' w.heap.size 25 #[.int .i64 m.h.old, .slice o1 m.h.cells.length c1, .slice o2 m.h.roots.length c2, .slice o3 m.noted.length c3]) := by
    intro w' h
    have hr := RowAt.below HR.out h (by omega)
    refine ⟨⟨?_, ?_, ?_, ?_⟩, hB0.trans (h.mono (by omega)), by have := h.size; simpa using this, hr⟩ <;> (rw [cell_of_row w' _ _ _ _ _ hr]; rfl)
  clear hv hs hR hB0
  go_enter Try.func4, Try.ntmps4
  go_wp2_with fail
  refine HC1.out.mono ?_
  rintro e w1 ⟨⟨r, rfl, hr⟩, hB1⟩
  have hB1' : Below (w.heap.size + 1) (w.alloc (.cells #[.int .i64 m.h.old, .slice o1 m.h.cells.length c1, .slice o2 m.h.roots.length c2, .slice o3 m.noted.length c3] 25)) w1 := hB1.mono (by simp)
  obtain ⟨⟨f0, f1, f2, f3⟩, hT1, hs1, _⟩ := HF.out w1 hB1'
  rcases hr with rfl | ⟨hr0, hsm⟩
  · go_wp2
    go_ret
    exact ⟨rfl, hT1⟩
  have hrn : ¬ r < 0 := by omega
  have HSM := hideT' hsm
  have HC2 := hideT' (toYoung_any m _ _ _ w1 (HV.out.below hT1) hsm)
  clear hsm hB1
  go_wp2_with fail
  refine HC2.out.mono ?_
  rintro e w2 ⟨⟨b2, c2', d2', rfl, hb2, hc2, hd2, hcd2, hM2⟩, hB2⟩
  have hB2' := hB1'.trans (hB2.mono hs1)
  obtain ⟨⟨g0, g1, g2, g3⟩, hT2, hs2, _⟩ := HF.out w2 hB2'
  have HC3 := hideT' (specLiveIn_any m _ _ _ _ _ _ w2 HSM.out hM2.rd)
  clear hB2 hM2 f0 f1 f2 f3
  go_wp2_with fail
  refine HC3.out.mono ?_
  rintro e w3 ⟨⟨u1, rfl, hO1⟩, hB3⟩
  have hB3' := hB2'.trans (hB3.mono hs2)
  obtain ⟨⟨k0, k1, k2, k3⟩, hT3, hs3, _⟩ := HF.out w3 hB3'
  obtain ⟨q, hq⟩ : ∃ q, q = ygOk m := ⟨_, rfl⟩
  rw [← hq]
  have HQ := hideT' hq
  obtain ⟨L, hL⟩ : ∃ L, L = liveOut m := ⟨_, rfl⟩
  rw [← hL] at hO1
  have HL := hideT' hL
  have hLl : L.length ≤ 1048576 := by
    rw [hL]; unfold liveOut; split
    · exact Nat.le_trans (idxI_len _ _) HSM.out.1.1
    · simp
  have HO1 := hideT' hO1
  have hu1 : ∀ g, u1.ownBlock = some g → w2.heap.size ≤ g ∧ g < w3.heap.size := fun g e => hO1.lt g e
  have HU1 := hideT' hu1
  have HC4 := hideT' (toYoung_any m _ _ _ w3 (HV.out.below hT3) HSM.out)
  clear hq hB3 g0 g1 g2 g3 hO1 hL hu1
  go_wp2_with fail
  refine HC4.out.mono ?_
  rintro e w4 ⟨⟨b4, c4, d4, rfl, hb4, hc4, hd4, hcd4, hM4⟩, hB4⟩
  have hB4' := hB3'.trans (hB4.mono hs3)
  have hs4 := (HF.out w4 hB4').2.2.1
  obtain ⟨l4b, l4c, l4d⟩ := hM4.lt
  have hBn : Below w4.heap.size w4 (w4.alloc (.cells #[.int .i64 m.h.old, slR b4 m.h.cells, slR c4 m.h.roots, slR d4 m.noted] 30)) := (Below.refl _ _).alloc (Nat.le_refl _) _
  have hB5' := hB4'.trans (hBn.mono hs4)
  have hRx := RowAt.new w4 30 #[.int .i64 m.h.old, slR b4 m.h.cells, slR c4 m.h.roots, slR d4 m.noted]
  have hM5 := hM4.below hBn l4b l4c l4d
  have HC5 := hideT' (implLiveIn_any m _ _ _ (w4.alloc (.cells #[.int .i64 m.h.old, slR b4 m.h.cells, slR c4 m.h.roots, slR d4 m.noted] 30)) HSM.out hM5)
  have HX5 := hideT' (And.intro hRx hM5)
  have HO15 := hideT' (OwnR.below (OwnR.below HO1.out hB4 (Nat.le_refl _)) hBn (Nat.le_refl _))
  have hsz34 := hB4.size
  clear hB4 hM4 hRx hM5 k0 k1 k2 k3 hBn
  go_wp2_with fail
  refine HC5.out.mono ?_
  rintro e w6 ⟨⟨u2, rfl, hO2⟩, hB6⟩
  have hs6 := hB6.size
  simp only [World.size_alloc] at hs6
  have hB6' := hB5'.trans (hB6.mono (by simp; omega))
  obtain ⟨_, hT6, _, hR6⟩ := HF.out w6 hB6'
  have hX6 := RowAt.below HX5.out.1 hB6 (by simp)
  have hM6 := HX5.out.2.below hB6 (by simp; omega) (by simp; omega) (by simp; omega)
  rw [← HQ.out]
  rw [← HL.out] at hO2
  have hu2 : ∀ g, u2.ownBlock = some g → w4.heap.size + 1 ≤ g ∧ g < w6.heap.size := fun g e => by have := hO2.lt g e; simpa using this
  have HU2 := hideT' hu2
  have HO16 := hideT' (OwnR.below HO15.out hB6 (Nat.le_refl _))
  have HO2 := hideT' hO2
  have hqq : (q != q) = false := by cases q <;> rfl
  have HC6 := hideT' (eqIntS_in u2 u1 L w6 hLl (hO2.inR intL_len) (HO16.out.inR intL_len))
  have HX6 := hideT' (And.intro hX6 hM6)
  clear hB6 hB4' hB5' hO2 hu2 hX6 hM6 hR6
  go_wp2_with fail
  refine HC6.out.mono ?_
  rintro e W6 ⟨rfl, hBb⟩
  have hB6b := hB6'.trans (hBb.mono (by omega))
  have hs6b := hBb.size
  have hX6 := RowAt.below HX6.out.1 hBb (by omega)
  have hM6 := HX6.out.2.below hBb (by omega) (by omega) (by omega)
  have HO1b := hideT' (OwnR.below HO16.out hBb (Nat.le_refl _))
  have HO2b := hideT' (OwnR.below HO2.out hBb (Nat.le_refl _))
  clear hBb hT6
  obtain ⟨_, hT6, _, hR6⟩ := HF.out W6 hB6b
  go_wp2_with fail
  have hS : (RowAt W6.drew w4.heap.size 30 #[.int .i64 m.h.old, slR b4 m.h.cells, slR c4 m.h.roots, slR d4 m.noted] ∧ RowAt W6.drew w.heap.size 25 #[.int .i64 m.h.old, .slice o1 m.h.cells.length c1, .slice o2 m.h.roots.length c2, .slice o3 m.noted.length c3]) ∧ YgAt W6.drew b4 c4 d4 m := ⟨⟨hX6, hR6⟩, hM6⟩
  refine held_begin (fun w' => (RowAt w' w4.heap.size 30 #[.int .i64 m.h.old, slR b4 m.h.cells, slR c4 m.h.roots, slR d4 m.noted] ∧ RowAt w' w.heap.size 25 #[.int .i64 m.h.old, .slice o1 m.h.cells.length c1, .slice o2 m.h.roots.length c2, .slice o3 m.noted.length c3]) ∧ YgAt w' b4 c4 d4 m) (by kernel_rfl) ?_
  refine held_valS 0 (some 41) rfl rfl (by kernel_rfl) (by kernel_rfl) (by kernel_rfl) noPanic_put rfl (.agg (ygC b4 c4 d4 m)) (fun w' h => run_loadRow (.tmp 6) 30 rfl w4.heap.size rfl _ _ h.1.1 Try.underlying30 zero_yg.2) hS ?_
  simp only [Act.put, List.setIfInBounds_toArray, List.set_cons_zero, List.set_cons_succ]
  refine held_valS 1 (some 42) rfl rfl (by kernel_rfl) (by kernel_rfl) (by kernel_rfl) noPanic_put rfl (.agg #[.int .i64 m.h.old, .slice o1 m.h.cells.length c1, .slice o2 m.h.roots.length c2, .slice o3 m.noted.length c3]) (fun w' h => run_loadRow (.tmp 1) 25 rfl w.heap.size rfl _ _ h.1.2 Try.underlying25 size_lyg) hS ?_
  simp only [Act.put, List.setIfInBounds_toArray, List.set_cons_zero, List.set_cons_succ]
  refine held_call 2 (some 43) (by kernel_rfl) rfl rfl rfl 14 #[.agg #[.int .i64 m.h.old, .slice o1 m.h.cells.length c1, .slice o2 m.h.roots.length c2, .slice o3 m.noted.length c3]] (by go_simp) _ (toYoung_any m _ _ _ W6.drew (HV.out.below hT6.drew) HSM.out) ?_
  rintro e w7 ⟨⟨b7, c7, d7, rfl, hb7, hc7, hd7, hcd7, hM7⟩, hB7⟩
  have hB7 : Below W6.heap.size W6 w7 := ⟨hB7.os, hB7.tape, hB7.output, hB7.size, hB7.block⟩
  obtain ⟨l6b, l6c, l6d⟩ := hM6.lt
  have hT7 := hT6.trans (hB7.mono hT6.size)
  have hM67 := hM6.below hB7 l6b l6c l6d
  have hS7 : (RowAt w7 w4.heap.size 30 #[.int .i64 m.h.old, slR b4 m.h.cells, slR c4 m.h.roots, slR d4 m.noted] ∧ RowAt w7 w.heap.size 25 #[.int .i64 m.h.old, .slice o1 m.h.cells.length c1, .slice o2 m.h.roots.length c2, .slice o3 m.noted.length c3]) ∧ YgAt w7 b4 c4 d4 m := ⟨⟨RowAt.below hX6 hB7 (RowAt.lt hX6), RowAt.below hR6 hB7 (RowAt.lt hR6)⟩, hM67⟩
  refine ⟨_, rfl, hS7, ?_⟩
  simp only [Act.put, List.setIfInBounds_toArray, List.set_cons_zero, List.set_cons_succ]
  refine held_call 3 (some 44) (by kernel_rfl) rfl rfl rfl 16 #[.agg (ygC b4 c4 d4 m), .agg (ygC b7 c7 d7 m)] (by go_simp) _ (eqYoung_in m _ _ _ _ _ _ w7 HSM.out hM67.rd hM7.rd) ?_
  rintro e w8 ⟨rfl, hB8⟩
  have hT8 := hT7.trans (hB8.mono hT7.size)
  obtain ⟨l7b, l7c, l7d⟩ := hM67.lt
  have hS8 : (RowAt w8 w4.heap.size 30 #[.int .i64 m.h.old, slR b4 m.h.cells, slR c4 m.h.roots, slR d4 m.noted] ∧ RowAt w8 w.heap.size 25 #[.int .i64 m.h.old, .slice o1 m.h.cells.length c1, .slice o2 m.h.roots.length c2, .slice o3 m.noted.length c3]) ∧ YgAt w8 b4 c4 d4 m := ⟨⟨RowAt.below hS7.1.1 hB8 (RowAt.lt hS7.1.1), RowAt.below hS7.1.2 hB8 (RowAt.lt hS7.1.2)⟩, hM67.below hB8 l7b l7c l7d⟩
  refine ⟨_, rfl, hS8, ?_⟩
  simp only [Act.put, List.setIfInBounds_toArray, List.set_cons_zero, List.set_cons_succ]
  refine held_val 4 (some 45) rfl rfl (by kernel_rfl) (by kernel_rfl) (by kernel_rfl) noPanic_put rfl (.bool false) (fun _ => by go_simp) hS8 ?_
  simp only [Act.put, List.setIfInBounds_toArray, List.set_cons_zero, List.set_cons_succ]
  refine wpAnyH_done (by kernel_rfl) ?_ _
  refine NoPanic.normal ?_
  have hB8' : Below (w.heap.size + 1) (w.alloc (.cells #[.int .i64 m.h.old, .slice o1 m.h.cells.length c1, .slice o2 m.h.roots.length c2, .slice o3 m.noted.length c3] 25)) w8 := hB6b.trans ((hB7.mono (by omega)).trans (hB8.mono (by have := hB7.size; omega)))
  have g0 : RowAt w8 w4.heap.size 30 #[.int .i64 m.h.old, slR b4 m.h.cells, slR c4 m.h.roots, slR d4 m.noted] := hS8.1.1
  have d0 : w8.cell? ⟨w4.heap.size, 0, none⟩ = some (.int .i64 m.h.old) := by rw [cell_of_row w8 _ _ _ _ _ g0]; rfl
  have d1 : w8.cell? ⟨w4.heap.size, 1, none⟩ = some (slR b4 m.h.cells) := by rw [cell_of_row w8 _ _ _ _ _ g0]; rfl
  have d2 : w8.cell? ⟨w4.heap.size, 2, none⟩ = some (slR c4 m.h.roots) := by rw [cell_of_row w8 _ _ _ _ _ g0]; rfl
  have d3 : w8.cell? ⟨w4.heap.size, 3, none⟩ = some (slR d4 m.noted) := by rw [cell_of_row w8 _ _ _ _ _ g0]; rfl
  have h18 : OwnR w8 w2.heap.size u1 3 intL 1 L := OwnR.below (OwnR.below HO1b.out hB7 (Nat.le_refl _)) hB8 (Nat.le_refl _)
  have h28 : OwnR w8 (w4.heap.size + 1) u2 3 intL 1 L := by
    have := OwnR.below (OwnR.below HO2b.out hB7 (Nat.le_refl _)) hB8 (Nat.le_refl _)
    simpa using this
  have HMK := hideT' (markYoung_own m.h.old (slR b4 m.h.cells) (slR c4 m.h.roots) (slR d4 m.noted) m.h.cells.length m.h.roots.length m.noted.length _ _ _ 1 w3.heap.size w3.heap.size w3.heap.size w8 (by omega) (by have := HSM.out.1.1; have := HSM.out.1.2; have := HSM.out.2; omega) (hS8.2.1.1.own cellL_len hb4 (by have := HSM.out.1.1; unfold maxLen; omega)) (hS8.2.1.2.own intL_len hc4 (by have := HSM.out.1.2; unfold maxLen; omega)) (hS8.2.2.own intL_len hd4 (by have := HSM.out.2; unfold maxLen; omega)) (fun g e e' => hcd4 (by simp only [Value.ownBlock] at e e'; injection e with e; injection e' with e'; omega)))
  have H18 := hideT' h18
  have H28 := hideT' h28
  have hs8 := (HF.out w8 hB8').2.2.1
  clear hS hS7 hS8 hM67 hM7 hB7 hB8 hM6 hX6 hR6 g0 h18 h28 hT7 hT6
  obtain ⟨M, hM⟩ : ∃ M : Int, M = 1 + 4 * (m.h.cells.length : Int) + (m.h.roots.length : Int) + (m.noted.length : Int) := ⟨_, rfl⟩
  have hMn : ¬ M < 0 := by omega
  have HM := hideT' hM
  clear hM
  go_wp2_with fail
  refine HMK.out.mono ?_
  rintro e w9 ⟨rfl, _, hOT⟩
  rw [← HM.out]
  have hne1 : ∀ g, u1.ownBlock = some g → some g ≠ (slR b4 m.h.cells).ownBlock ∧ some g ≠ (slR c4 m.h.roots).ownBlock ∧ some g ≠ (slR d4 m.noted).ownBlock := fun g e => by
    have := HU1.out g e
    refine ⟨fun e => ?_, fun e => ?_, fun e => ?_⟩ <;> (simp only [Value.ownBlock] at e; injection e with e; omega)
  have hne2 : ∀ g, u2.ownBlock = some g → some g ≠ (slR b4 m.h.cells).ownBlock ∧ some g ≠ (slR c4 m.h.roots).ownBlock ∧ some g ≠ (slR d4 m.noted).ownBlock := fun g e => by
    have := HU2.out g e
    refine ⟨fun e => ?_, fun e => ?_, fun e => ?_⟩ <;> (simp only [Value.ownBlock] at e; injection e with e; omega)
  have H19 := hideT' (hOT.own H18.out hne1)
  have H29 := hideT' (hOT.own H28.out hne2)
  have hB9 : Below (w.heap.size + 1) (w.alloc (.cells #[.int .i64 m.h.old, .slice o1 m.h.cells.length c1, .slice o2 m.h.roots.length c2, .slice o3 m.noted.length c3] 25)) w9 := hOT.below hB8' hs8 (fun k e => by simp only [Value.ownBlock] at e; injection e with e; omega) (fun k e => by simp only [Value.ownBlock] at e; injection e with e; omega) (fun k e => by simp only [Value.ownBlock] at e; injection e with e; omega)
  have hs9 := (HF.out w9 hB9).2.2.1
  have HC7 := hideT' (eqIntS_in u2 u1 L w9 hLl (OwnR.inR (l := L) H29.out intL_len) (OwnR.inR (l := L) H19.out intL_len))
  clear hOT hne1 hne2 d0 d1 d2 d3
  go_wp2_with fail
  refine HC7.out.mono ?_
  rintro e w10 ⟨rfl, hB10⟩
  have hB10' := hB9.trans (hB10.mono hs9)
  have hs10 := (HF.out w10 hB10').2.2.1
  have H110 := hideT' (OwnR.below (l := L) H19.out hB10 (Nat.le_refl _))
  have H210 := hideT' (OwnR.below (l := L) H29.out hB10 (Nat.le_refl _))
  have HC8 := hideT' (markIntS_own u2 L.length _ 1 (w4.heap.size + 1) w10 (by omega) (by omega) H210.out)
  obtain ⟨N, hN⟩ : ∃ N : Int, N = 1 + (L.length : Int) := ⟨_, rfl⟩
  have hNn : ¬ N < 0 := by omega
  have HN := hideT' hN
  clear hN hB10
  go_wp2_with fail
  refine HC8.out.mono ?_
  rintro e w11 ⟨rfl, hO11, hg11⟩
  rw [← HN.out]
  have hne12 : L ≠ [] → u1.ownBlock ≠ u2.ownBlock := fun hne e => by
    rcases H110.out.2 with ⟨_, h0⟩ | ⟨g, cap, cur, h1, _⟩
    · exact hne (List.length_eq_zero_iff.1 h0)
    · have e1 : u1.ownBlock = some g := by rw [h1]; rfl
      have := HU1.out g e1
      have := HU2.out g (by rw [← e]; exact e1)
      omega
  have HI1 := hideT' (InR.grown (OwnR.inR (l := L) H110.out intL_len) hg11 hne12)
  have HI2 := hideT' (OwnR.inR (l := markL markInt 1 1 L.length) hO11 intL_len)
  have hB11 : Below (w.heap.size + 1) (w.alloc (.cells #[.int .i64 m.h.old, .slice o1 m.h.cells.length c1, .slice o2 m.h.roots.length c2, .slice o3 m.noted.length c3] 25)) w11 := hB10'.grown hg11 hs10 (fun k e => by have := HU2.out k e; omega)
  obtain ⟨⟨y0, y1, y2, y3⟩, hT11, hs11, _⟩ := HF.out w11 hB11
  have HC9 := hideT' (heldIntS_in u2 L.length 1 w11 (by omega) (by omega) HI2.out)
  clear hg11 hO11 hne12
  go_wp2_with fail
  refine HC9.out.mono ?_
  rintro e w12 ⟨rfl, hB12⟩
  rw [← HN.out]
  have hB12' := hB11.trans (hB12.mono hs11)
  clear y0 y1 y2 y3
  obtain ⟨⟨y0, y1, y2, y3⟩, hT12, hs12, _⟩ := HF.out w12 hB12'
  have HI1b := hideT' (HI1.out.below hB12)
  have HI2b := hideT' (HI2.out.below hB12)
  have HC10 := hideT' (toYoung_any m _ _ _ w12 (HV.out.below hT12) HSM.out)
  have hNN : (N != N) = false := by simp
  clear hB12
  go_wp2_with fail
  refine HC10.out.mono ?_
  rintro e w13 ⟨⟨b13, c13, d13, rfl, hb13, hc13, hd13, hcd13, hM13⟩, hB13⟩
  have hB13' := hB12'.trans (hB13.mono hs12)
  have hs13 := (HF.out w13 hB13').2.2.1
  have HI1c := hideT' (HI1b.out.below hB13)
  have HI2c := hideT' (HI2b.out.below hB13)
  have HC11 := hideT' (implLiveIn_any m _ _ _ w13 HSM.out hM13)
  clear hB13 hM13 y0 y1 y2 y3
  go_wp2_with fail
  refine HC11.out.mono ?_
  rintro e w14 ⟨⟨u3, rfl, hO3⟩, hB14⟩
  rw [← HQ.out]
  rw [← HL.out] at hO3
  have hB14' := hB13'.trans (hB14.mono hs13)
  have hs14 := (HF.out w14 hB14').2.2.1
  have HI1d := hideT' (HI1c.out.below hB14)
  have HI2d := hideT' (HI2c.out.below hB14)
  have HC12 := hideT' (eqIntS_in u3 u1 L w14 hLl (OwnR.inR (l := L) hO3 intL_len) HI1d.out)
  clear hB14 hO3
  go_wp2_with fail
  refine HC12.out.mono ?_
  rintro e w15 ⟨rfl, hB15⟩
  have hB15' := hB14'.trans (hB15.mono hs14)
  have hs15 := (HF.out w15 hB15').2.2.1
  have HC13 := hideT' (heldIntS_in u2 L.length 1 w15 (by omega) (by omega) (HI2d.out.below hB15))
  clear hB15
  go_wp2_with fail
  refine HC13.out.mono ?_
  rintro e w16 ⟨rfl, hB16⟩
  rw [← HN.out]
  have hT16 := (HF.out _ (hB15'.trans (hB16.mono hs15))).2.1
  go_wp2
  go_ret
  exact ⟨rfl, hT16⟩

set_option maxRecDepth 100000 in
theorem lifted (os : Os) (started : os.Started) (H : Type) (enc : TypeId × Value → H) :
    ReturnsInHanded {} Try.checked os 4 .any (Rows.fnExactLiveInSpec.pre6 enc Try.prog Try.f4 Rows.fnExactLiveInRow.domain false) (Rows.fnExactLiveInSpec.post enc Try.prog Try.f4 false true false false) := by
  refine returnsInHanded_of_change (C := Try.checked) own started (by kernel_rfl) Try.func4
    (ChangeSpec.witness6 (enc := enc) (C := Try.checked) false ⟨#[], #[.agg #[.int .i64 0, .slice none 0 0, .slice none 0 0, .slice none 0 0]], []⟩ 8 (by kernel_rfl) (by kernel_rfl) (by kernel_rfl) (by kernel_rfl)) ?_
  intro W base args ds gs before hval0 hW hcnd _
  have hval : ∀ (j : Nat) t v, Try.f4.params[j]? = some t → args[j]? = some v → Value.okWide Try.prog W .any base t v := hval0
  have hW' := hW
  obtain ⟨p, q, hA0, hV, rfl, hfz, hnd⟩ := hW
  have hA : DataW.TrodAll enc Try.prog W 0 (fun _ => true) true Try.f4.params.toList args.toList ds p := hA0
  rw [Try.params4] at hA hval
  obtain ⟨v0, vs0, d0, ds0, p0, q0, hargs, rfl, rfl, h0, r0⟩ := trodAll_cons hA
  obtain ⟨rfl, rfl, rfl⟩ := trodAll_nil r0
  obtain rfl : args = #[v0] := by cases args; simp_all
  obtain ⟨rfl, rfl⟩ := trodVars_none hV
  obtain ⟨m0, vl0, vr0, vn0, rfl, g0, s0, n0⟩ := open_young (hval 0 25 v0 rfl rfl) h0
  clear hA0 hval0
  simp only [List.append_nil] at hW'
  have lt0 : ∀ x ∈ p0, x.block < W.heap.size := fun x hx => hW'.lt x (by simp [hx])
  refine (walk m0 vl0 vr0 vn0 W g0 s0).mono fun e W' ⟨he, bel⟩ => ?_
  subst he
  exact ⟨_, rfl, _, _, _, [], _, [], hW', (trodAll_cons_mk (shut_bool Try.underlying4 _) trodAll_mk0), (trodAll_cons_mk (Below.trod laidOutR (by kernel_rfl) (of_decide_eq_true (by kernel_rfl)) h0 bel lt0) trodAll_mk0), rfl, bel.frame _, fun h => by cases h⟩

theorem over : Rows.fnExactLiveInRow.holds Try.pinned (OpenSpec.ofChange Rows.fnExactLiveInSpec) :=
  OpenClaim.holds_of_wide 4 Try.f4 rfl rfl rfl rfl rfl rfl rfl ⟨rfl, rfl, rfl, rfl, rfl⟩ rfl rfl rfl rfl rfl (by kernel_rfl) Try.func4 (by kernel_rfl)
    (of_decide_eq_true (by kernel_rfl)) (by unfold Func.isWrapper; first | (rw [if_pos (by decide +kernel)]; kernel_rfl) | (rw [if_neg (by decide +kernel)]; exact ⟨rfl, rfl⟩))
    (fun os started H enc _ => lifted os started H enc)

end Go.Proofs.Ytoaancgmahdbnaa.fnExactLiveIn

namespace Go.Proofs.Ytoaancgmahdbnaa
theorem liveIn_holds : Rows.FnExactLiveInSaid := fnExactLiveIn.over
#print axioms liveIn_holds
end Go.Proofs.Ytoaancgmahdbnaa
