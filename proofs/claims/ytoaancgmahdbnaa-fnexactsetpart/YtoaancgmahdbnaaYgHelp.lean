/-
  Heaps that are written, as answers: what the laws' own helpers over them say.
-/
import Derived.Test.YtoaancgmahdbnaaYgLaw
import Derived.Test.YtoaancgmahdbnaaHeapMark
namespace Go.Proofs.Ytoaancgmahdbnaa
open Go.RowKit
set_option linter.unusedVariables false

/-- Nothing that lay is turned but for three blocks. -/
structure OnlyThree (w w' : World) (r1 r2 r3 : Option Nat) : Prop where
  os : w'.os = w.os
  tape : w'.tape = w.tape
  output : w'.output = w.output
  size : w.heap.size ≤ w'.heap.size
  block : ∀ k, k < w.heap.size → some k ≠ r1 → some k ≠ r2 → some k ≠ r3 → w'.heap[k]? = w.heap[k]?
theorem OnlyThree.below {B : Nat} {a w w' : World} {r1 r2 r3 : Option Nat} (h : Below B a w) (hg : OnlyThree w w' r1 r2 r3) (hB : B ≤ w.heap.size) (h1 : ∀ k, r1 = some k → B ≤ k) (h2 : ∀ k, r2 = some k → B ≤ k) (h3 : ∀ k, r3 = some k → B ≤ k) : Below B a w' :=
  h.trans ⟨hg.os, hg.tape, hg.output, hg.size, fun k hk => hg.block k (by omega) (fun e => by have := h1 k e.symm; omega) (fun e => by have := h2 k e.symm; omega) (fun e => by have := h3 k e.symm; omega)⟩
theorem OnlyThree.own {w w' : World} {r1 r2 r3 : Option Nat} {B n s : Nat} {T : TypeId} {v : Value} {xs : List Value} (hg : OnlyThree w w' r1 r2 r3) (h : w.ownsRow B T s v n xs) (h1 : ∀ g, v.ownBlock = some g → some g ≠ r1 ∧ some g ≠ r2 ∧ some g ≠ r3) : w'.ownsRow B T s v n xs := by
  refine ⟨h.1, h.2.imp id fun ⟨g, cap, cur, e, h2, h3, h4⟩ => ⟨g, cap, cur, e, h2, ?_, h4⟩⟩
  have hb := h1 g (by rw [e]; rfl)
  rw [hg.block g (Array.getElem?_eq_some_iff.1 h3).1 hb.1 hb.2.1 hb.2.2]; exact h3
theorem OnlyThree.row {w w' : World} {r1 r2 r3 : Option Nat} {b : Nat} {t : TypeId} {cs : Array Value} (hg : OnlyThree w w' r1 r2 r3) (h : RowAt w b t cs) (h1 : some b ≠ r1) (h2 : some b ≠ r2) (h3 : some b ≠ r3) : RowAt w' b t cs := by
  unfold RowAt; rw [hg.block b h.lt h1 h2 h3]; exact h

set_option maxHeartbeats 2000000 in
set_option maxRecDepth 100000 in
theorem markYoung_own (old : Int) (v1 v2 v3 : Value) (nc nr nn : Nat) (xs1 xs2 xs3 : List Value) (k : Int) (B1 B2 B3 : Nat) (w : World) (hk0 : 0 < k) (hk1 : k + 4 * (nc : Int) + (nr : Int) + (nn : Int) ≤ 1099511627776) (h1 : w.ownsRow B1 59 4 v1 nc xs1) (h2 : w.ownsRow B2 3 1 v2 nr xs2) (h3 : w.ownsRow B3 3 1 v3 nn xs3) (h23 : ∀ g, v2.ownBlock = some g → v3.ownBlock ≠ some g) :
    Calls Try.prog 20 #[.agg #[.int .i64 old, v1, v2, v3], .int .i64 k] w fun e w' => e = .returned (.int .i64 (k + 4 * (nc : Int) + (nr : Int) + (nn : Int))) ∧ ((OwnR w' B1 v1 59 cellL 4 (markL markCell 4 k nc) ∧ OwnR w' B2 v2 3 intL 1 (markL markInt 1 (k + 4 * (nc : Int)) nr)) ∧ OwnR w' B3 v3 3 intL 1 (markL markInt 1 (k + 4 * (nc : Int) + (nr : Int)) nn)) ∧ OnlyThree w w' v1.ownBlock v2.ownBlock v3.ownBlock := by
  obtain ⟨o1, c1, e1⟩ := own_formX h1
  obtain ⟨o2, c2, e2⟩ := own_formX h2
  obtain ⟨o3, c3, e3⟩ := own_formX h3
  subst e1 e2 e3
  have hne1 : ∀ g, (Value.slice o1 nc c1).ownBlock = some g → (Value.slice o2 nr c2).ownBlock ≠ some g ∧ (Value.slice o3 nn c3).ownBlock ≠ some g := fun g e => by
    have key : ∀ (o : Option Addr) (n c B : Nat) (xs : List Value), w.ownsRow B 3 1 (.slice o n c) n xs → (Value.slice o n c).ownBlock ≠ some g := fun o n c B xs h e' => by
      rcases h1.2 with ⟨e1, _⟩ | ⟨g1, cap, cur, e1, _, hg, _⟩
      · rw [e1] at e; cases e
      · rw [e1] at e; cases e
        rcases h.2 with ⟨e2, _⟩ | ⟨g', cap', cur', e2, _, hg', _⟩
        · rw [e2] at e'; cases e'
        · rw [e2] at e'; cases e'
          rw [hg] at hg'; cases hg'
    exact ⟨key _ _ _ _ _ h2, key _ _ _ _ _ h3⟩
  obtain ⟨W0, hW0⟩ : ∃ W0, W0 = w.alloc (.cells #[.int .i64 old, .slice o1 nc c1, .slice o2 nr c2, .slice o3 nn c3] 30) := ⟨_, rfl⟩
  have H1 : Hid (W0.ownsRow B1 59 4 (.slice o1 nc c1) nc xs1) := by rw [hW0]; exact h1.alloc _
  have H2 : Hid (W0.ownsRow B2 3 1 (.slice o2 nr c2) nr xs2) := by rw [hW0]; exact h2.alloc _
  have H3 : Hid (W0.ownsRow B3 3 1 (.slice o3 nn c3) nn xs3) := by rw [hW0]; exact h3.alloc _
  have L1 : Hid (∀ g, (Value.slice o1 nc c1).ownBlock = some g → g < w.heap.size) := fun g e => (h1.lt g e).2
  have L2 : Hid (∀ g, (Value.slice o2 nr c2).ownBlock = some g → g < w.heap.size) := fun g e => (h2.lt g e).2
  have L3 : Hid (∀ g, (Value.slice o3 nn c3).ownBlock = some g → g < w.heap.size) := fun g e => (h3.lt g e).2
  have hR : RowAt W0 w.heap.size 30 #[.int .i64 old, .slice o1 nc c1, .slice o2 nr c2, .slice o3 nn c3] := by rw [hW0]; exact RowAt.new _ _ _
  have HC1 := hideT' (markCellS_own _ nc _ k B1 _ hk0 (by omega) H1.out)
  have HK : Hid (k + 4 * (nc : Int) + (nr : Int) + (nn : Int) ≤ 1099511627776) := hk1
  obtain ⟨N, hN⟩ : ∃ N : Int, N = k + 4 * (nc : Int) := ⟨_, rfl⟩
  have hN0 : 0 < N := by omega
  have HN := hideT' hN
  have HR := hideT' hR
  have HNE := hideT' hne1
  have H23 := hideT' h23
  have HW0 := hideT' hW0
  have hs0 : W0.heap.size = w.heap.size + 1 := by rw [hW0]; simp
  have HB0 : Hid (∀ k, k < w.heap.size → W0.heap[k]? = w.heap[k]?) := fun k hk => by rw [hW0]; exact Below.heap_alloc _ _ _ hk
  have HOS : Hid (W0.os = w.os ∧ W0.tape = w.tape ∧ W0.output = w.output) := by rw [hW0]; exact ⟨rfl, rfl, rfl⟩
  clear h1 h2 h3 hk1 hN hR hne1 h23 hW0
  go_enter Try.func20, Try.ntmps20
  go_wp2_with fail
  rw [← HW0.out]
  refine HC1.out.mono ?_
  rintro e w1 ⟨rfl, hO1, hg1⟩
  rw [← HN.out]
  have hR1 : RowAt w1 w.heap.size 30 #[.int .i64 old, .slice o1 nc c1, .slice o2 nr c2, .slice o3 nn c3] := HR.out.grown hg1 (fun e => by have := L1.out _ e.symm; omega)
  have f2 : w1.cell? ⟨w.heap.size, 2, none⟩ = some (.slice o2 nr c2) := by rw [cell_of_row w1 _ _ _ _ _ hR1]; rfl
  have far : ∀ (o : Option Addr) (n c : Nat), (∀ g, (Value.slice o1 nc c1).ownBlock = some g → (Value.slice o n c).ownBlock ≠ some g) → (Value.slice o n c).ownBlock = none ∨ (Value.slice o n c).ownBlock ≠ (Value.slice o1 nc c1).ownBlock := fun o n c h => by
    rcases hh : (Value.slice o n c).ownBlock with _ | g
    · exact .inl rfl
    · refine .inr fun e => h g e.symm hh
  have hO2 := H2.out.kept hg1 (far o2 nr c2 (fun g e => (HNE.out g e).1))
  have hO3 := H3.out.kept hg1 (far o3 nn c3 (fun g e => (HNE.out g e).2))
  have HO1 := hideT' hO1
  have HO3 := hideT' hO3
  have HG1 := hideT' hg1
  have HR1 := hideT' hR1
  have HC2 := hideT' (markIntS_own _ nr _ N B2 _ hN0 (by have := HN.out; have := HK.out; omega) hO2)
  clear hO1 hO2 hO3 hg1 hR1 far
  obtain ⟨M, hM⟩ : ∃ M : Int, M = N + (nr : Int) := ⟨_, rfl⟩
  have hM0 : 0 < M := by omega
  have HM := hideT' hM
  clear hM
  go_wp2_with fail
  refine HC2.out.mono ?_
  rintro e w2 ⟨rfl, hO2, hg2⟩
  rw [← HM.out]
  have hR2 : RowAt w2 w.heap.size 30 #[.int .i64 old, .slice o1 nc c1, .slice o2 nr c2, .slice o3 nn c3] := HR1.out.grown hg2 (fun e => by have := L2.out _ e.symm; omega)
  have f3 : w2.cell? ⟨w.heap.size, 3, none⟩ = some (.slice o3 nn c3) := by rw [cell_of_row w2 _ _ _ _ _ hR2]; rfl
  have hO3' : w2.ownsRow B3 3 1 (.slice o3 nn c3) nn xs3 := HO3.out.kept hg2 (by
    rcases hh : (Value.slice o2 nr c2).ownBlock with _ | g
    · rcases hh3 : (Value.slice o3 nn c3).ownBlock with _ | g3
      · exact .inl rfl
      · exact .inr (by simp)
    · exact .inr (H23.out g hh))
  have hO1' : OwnR w2 B1 (.slice o1 nc c1) 59 cellL 4 (markL markCell 4 k nc) := HO1.out.kept hg2 (by
    rcases hh : (Value.slice o1 nc c1).ownBlock with _ | g
    · exact .inl rfl
    · exact .inr (fun e => (HNE.out g hh).1 e.symm))
  have HO12 := hideT' (And.intro hO1' hO2)
  have HG2 := hideT' hg2
  have HC3 := hideT' (markIntS_own _ nn _ M B3 _ hM0 (by have := HN.out; have := HM.out; have := HK.out; omega) hO3')
  clear hO2 hO3' hO1' hg2 hR2 f2
  obtain ⟨P, hP⟩ : ∃ P : Int, P = M + (nn : Int) := ⟨_, rfl⟩
  have HP := hideT' hP
  clear hP
  go_wp2_with fail
  refine HC3.out.mono ?_
  rintro e w3 ⟨rfl, hO3, hg3⟩
  rw [← HP.out]
  have hn13 : (Value.slice o1 nc c1).ownBlock = none ∨ (Value.slice o1 nc c1).ownBlock ≠ (Value.slice o3 nn c3).ownBlock := by
    rcases hh : (Value.slice o1 nc c1).ownBlock with _ | g
    · exact .inl rfl
    · exact .inr (fun e => (HNE.out g hh).2 e.symm)
  have hn23 : (Value.slice o2 nr c2).ownBlock = none ∨ (Value.slice o2 nr c2).ownBlock ≠ (Value.slice o3 nn c3).ownBlock := by
    rcases hh : (Value.slice o2 nr c2).ownBlock with _ | g
    · exact .inl rfl
    · exact .inr (fun e => H23.out g hh e.symm)
  have HF : Hid ((OwnR w3 B1 (.slice o1 nc c1) 59 cellL 4 (markL markCell 4 k nc) ∧ OwnR w3 B2 (.slice o2 nr c2) 3 intL 1 (markL markInt 1 N nr)) ∧ OwnR w3 B3 (.slice o3 nn c3) 3 intL 1 (markL markInt 1 M nn)) := ⟨⟨HO12.out.1.kept hg3 hn13, HO12.out.2.kept hg3 hn23⟩, hO3⟩
  have HT : Hid (OnlyThree w w3 (Value.slice o1 nc c1).ownBlock (Value.slice o2 nr c2).ownBlock (Value.slice o3 nn c3).ownBlock) := by
    have hz1 := HG1.out.size
    have hz2 := HG2.out.size
    obtain ⟨q1, q2, q3⟩ := HOS.out
    refine ⟨hg3.os.trans (HG2.out.os.trans (HG1.out.os.trans q1)), hg3.tape.trans (HG2.out.tape.trans (HG1.out.tape.trans q2)), hg3.output.trans (HG2.out.output.trans (HG1.out.output.trans q3)), by have := hg3.size; omega, fun j hj e1 e2 e3 => ?_⟩
    rw [hg3.block j (by omega) e3, HG2.out.block j (by omega) e2, HG1.out.block j (by omega) e1, HB0.out j hj]
  clear hO3 hg3 hn13 hn23 f3
  go_wp2
  go_ret
  refine ⟨?_, ?_, HT.out⟩
  · rw [HP.out, HM.out, HN.out]; rfl
  · rw [← HN.out, ← HM.out]; exact HF.out

set_option maxHeartbeats 1000000 in
set_option maxRecDepth 100000 in
theorem heldYoung_in (old : Int) (v1 v2 v3 : Value) (nc nr nn : Nat) (k : Int) (w : World) (hk0 : 0 < k) (hk1 : k + 4 * (nc : Int) + (nr : Int) + (nn : Int) ≤ 1099511627776) (h1 : InR w v1 cellL 4 (markL markCell 4 k nc)) (h2 : InR w v2 intL 1 (markL markInt 1 (k + 4 * (nc : Int)) nr)) (h3 : InR w v3 intL 1 (markL markInt 1 (k + 4 * (nc : Int) + (nr : Int)) nn)) :
    Calls Try.prog 25 #[.agg #[.int .i64 old, v1, v2, v3], .int .i64 k] w fun e w' => e = .returned (.int .i64 (k + 4 * (nc : Int) + (nr : Int) + (nn : Int))) ∧ Below w.heap.size w w' := by
  obtain ⟨o1, c1, e1, x1⟩ := h1
  obtain ⟨o2, c2, e2, x2⟩ := h2
  obtain ⟨o3, c3, e3, x3⟩ := h3
  rw [markL_len] at e1 e2 e3
  subst e1 e2 e3
  have hB : Below w.heap.size w (w.alloc (.cells #[.int .i64 old, .slice o1 nc c1, .slice o2 nr c2, .slice o3 nn c3] 30)) := (Below.refl _ _).alloc (Nat.le_refl _) _
  have H1 : Hid (InR w (.slice o1 nc c1) cellL 4 (markL markCell 4 k nc)) := ⟨o1, c1, by rw [markL_len], x1⟩
  have H2 : Hid (InR w (.slice o2 nr c2) intL 1 (markL markInt 1 (k + 4 * (nc : Int)) nr)) := ⟨o2, c2, by rw [markL_len], x2⟩
  have H3 : Hid (InR w (.slice o3 nn c3) intL 1 (markL markInt 1 (k + 4 * (nc : Int) + (nr : Int)) nn)) := ⟨o3, c3, by rw [markL_len], x3⟩
  have HC1 := hideT' (heldCellS_in _ nc k _ hk0 (by omega) (H1.out.below hB))
  have hR := RowAt.new w 30 #[.int .i64 old, .slice o1 nc c1, .slice o2 nr c2, .slice o3 nn c3]
  have HK : Hid (k + 4 * (nc : Int) + (nr : Int) + (nn : Int) ≤ 1099511627776) := hk1
  obtain ⟨N, hN⟩ : ∃ N : Int, N = k + 4 * (nc : Int) := ⟨_, rfl⟩
  have hN0 : 0 < N := by omega
  have hNn : ¬ N < 0 := by omega
  have HN := hideT' hN
  have HR := hideT' hR
  have HB := hideT' hB
  clear x1 x2 x3 hk1 hN hR hB
  go_enter Try.func25, Try.ntmps25
  go_wp2_with fail
  refine HC1.out.mono ?_
  rintro e w1 ⟨rfl, hB1⟩
  rw [← HN.out]
  have hR1 := HR.out.below hB1 (by simp)
  have f2 : w1.cell? ⟨w.heap.size, 2, none⟩ = some (.slice o2 nr c2) := by rw [cell_of_row w1 _ _ _ _ _ hR1]; rfl
  have hB1' := HB.out.trans (hB1.mono (by simp))
  have hs1 := hB1.size
  simp only [World.size_alloc] at hs1
  have HC2 : Hid (Calls Try.prog 22 #[.slice o2 nr c2, .int .i64 N] w1 fun e w' => e = .returned (.int .i64 (N + (nr : Int))) ∧ Below w1.heap.size w1 w') := heldIntS_in _ nr N w1 hN0 (by have := HN.out; have := HK.out; omega) (by have := H2.out.below hB1'; rwa [← HN.out] at this)
  obtain ⟨M, hM⟩ : ∃ M : Int, M = N + (nr : Int) := ⟨_, rfl⟩
  have hM0 : 0 < M := by omega
  have hMn : ¬ M < 0 := by omega
  have HM := hideT' hM
  have HR1 := hideT' hR1
  have HB1 := hideT' hB1'
  clear hM hR1 hB1 hB1'
  go_wp2_with fail
  refine HC2.out.mono ?_
  rintro e w2 ⟨rfl, hB2⟩
  rw [← HM.out]
  have hR2 := HR1.out.below hB2 (by omega)
  have f3 : w2.cell? ⟨w.heap.size, 3, none⟩ = some (.slice o3 nn c3) := by rw [cell_of_row w2 _ _ _ _ _ hR2]; rfl
  have hB2' := HB1.out.trans (hB2.mono HB1.out.size)
  have HC3 : Hid (Calls Try.prog 22 #[.slice o3 nn c3, .int .i64 M] w2 fun e w' => e = .returned (.int .i64 (M + (nn : Int))) ∧ Below w2.heap.size w2 w') := heldIntS_in _ nn M w2 hM0 (by have := HN.out; have := HM.out; have := HK.out; omega) (by have := H3.out.below hB2'; rwa [← HN.out, ← HM.out] at this)
  obtain ⟨P, hP⟩ : ∃ P : Int, P = M + (nn : Int) := ⟨_, rfl⟩
  have hPn : ¬ P < 0 := by omega
  have HP := hideT' hP
  have HB2 := hideT' hB2'
  clear hP hR2 hB2 hB2' f2
  go_wp2_with fail
  refine HC3.out.mono ?_
  rintro e w3 ⟨rfl, hB3⟩
  rw [← HP.out]
  have HB3 := hideT' (HB2.out.trans (hB3.mono HB2.out.size))
  clear hB3
  go_wp2
  go_ret
  exact ⟨by rw [HP.out, HM.out, HN.out]; rfl, HB3.out⟩
end Go.Proofs.Ytoaancgmahdbnaa
