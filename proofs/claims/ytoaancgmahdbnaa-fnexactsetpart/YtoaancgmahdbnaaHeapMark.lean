/-
  Heaps that are answers: what the laws' own helpers over them say.
-/
import Derived.Test.YtoaancgmahdbnaaHeapLaw
import Derived.Test.YtoaancgmahdbnaaSpecReach
namespace Go.Proofs.Ytoaancgmahdbnaa
open Go.RowKit
set_option linter.unusedVariables false

/-- Nothing that lay is turned but for two blocks. -/
structure OnlyTwo (w w' : World) (r1 r2 : Option Nat) : Prop where
  os : w'.os = w.os
  tape : w'.tape = w.tape
  output : w'.output = w.output
  size : w.heap.size ≤ w'.heap.size
  block : ∀ k, k < w.heap.size → some k ≠ r1 → some k ≠ r2 → w'.heap[k]? = w.heap[k]?
theorem OnlyTwo.below {B : Nat} {a w w' : World} {r1 r2 : Option Nat} (h : Below B a w) (hg : OnlyTwo w w' r1 r2) (hB : B ≤ w.heap.size) (h1 : ∀ k, r1 = some k → B ≤ k) (h2 : ∀ k, r2 = some k → B ≤ k) : Below B a w' :=
  h.trans ⟨hg.os, hg.tape, hg.output, hg.size, fun k hk => hg.block k (by omega) (fun e => by have := h1 k e.symm; omega) (fun e => by have := h2 k e.symm; omega)⟩
theorem OnlyTwo.own {w w' : World} {r1 r2 : Option Nat} {B n s : Nat} {T : TypeId} {v : Value} {xs : List Value} (hg : OnlyTwo w w' r1 r2) (h : w.ownsRow B T s v n xs) (h1 : ∀ g, v.ownBlock = some g → some g ≠ r1 ∧ some g ≠ r2) : w'.ownsRow B T s v n xs := by
  refine ⟨h.1, h.2.imp id fun ⟨g, cap, cur, e, h2, h3, h4⟩ => ⟨g, cap, cur, e, h2, ?_, h4⟩⟩
  have hb := h1 g (by rw [e]; rfl)
  rw [hg.block g (Array.getElem?_eq_some_iff.1 h3).1 hb.1 hb.2]; exact h3
theorem OnlyTwo.row {w w' : World} {r1 r2 : Option Nat} {b : Nat} {t : TypeId} {cs : Array Value} (hg : OnlyTwo w w' r1 r2) (h : RowAt w b t cs) (h1 : some b ≠ r1) (h2 : some b ≠ r2) : RowAt w' b t cs := by
  unfold RowAt; rw [hg.block b h.lt h1 h2]; exact h

set_option maxHeartbeats 1000000 in
set_option maxRecDepth 100000 in
theorem markHeap_own (old : Int) (v1 v2 : Value) (nc nr : Nat) (xs1 xs2 : List Value) (k : Int) (B1 B2 : Nat) (w : World) (hk0 : 0 < k) (hk1 : k + 4 * (nc : Int) + (nr : Int) ≤ 1099511627776) (h1 : w.ownsRow B1 59 4 v1 nc xs1) (h2 : w.ownsRow B2 3 1 v2 nr xs2) :
    Calls Try.prog 37 #[.agg #[.int .i64 old, v1, v2], .int .i64 k] w fun e w' => e = .returned (.int .i64 (k + 4 * (nc : Int) + (nr : Int))) ∧ (OwnR w' B1 v1 59 cellL 4 (markL markCell 4 k nc) ∧ OwnR w' B2 v2 3 intL 1 (markL markInt 1 (k + 4 * (nc : Int)) nr)) ∧ OnlyTwo w w' v1.ownBlock v2.ownBlock := by
  obtain ⟨o1, c1, e1⟩ := own_formX h1
  obtain ⟨o2, c2, e2⟩ := own_formX h2
  subst e1 e2
  have H1 := hideT' (h1.alloc (.cells #[.int .i64 old, .slice o1 nc c1, .slice o2 nr c2] 48))
  have H2 := hideT' (h2.alloc (.cells #[.int .i64 old, .slice o1 nc c1, .slice o2 nr c2] 48))
  have L1 : Hid (∀ g, (Value.slice o1 nc c1).ownBlock = some g → g < w.heap.size) := fun g e => (h1.lt g e).2
  have L2 : Hid (∀ g, (Value.slice o2 nr c2).ownBlock = some g → g < w.heap.size) := fun g e => (h2.lt g e).2
  have hR := RowAt.new w 48 #[.int .i64 old, .slice o1 nc c1, .slice o2 nr c2]
  have HC1 := hideT' (markCellS_own _ nc _ k B1 _ hk0 (by omega) H1.out)
  have HK : Hid (k + 4 * (nc : Int) + (nr : Int) ≤ 1099511627776) := hk1
  obtain ⟨N, hN⟩ : ∃ N : Int, N = k + 4 * (nc : Int) := ⟨_, rfl⟩
  have hN0 : 0 < N := by omega
  have hN1 : N ≤ 1099511627776 := by omega
  have HN := hideT' hN
  have HR := hideT' hR
  have hne : (Value.slice o1 nc c1).ownBlock ≠ none → (Value.slice o2 nr c2).ownBlock ≠ (Value.slice o1 nc c1).ownBlock := fun hn e => by
    rcases h1.2 with ⟨e1, _⟩ | ⟨g, cap, cur, e1, _, hg, _⟩
    · rw [e1] at hn; exact hn rfl
    · rcases h2.2 with ⟨e2, _⟩ | ⟨g', cap', cur', e2, _, hg', _⟩
      · rw [e1, e2] at e; cases e
      · rw [e1, e2] at e
        cases e
        rw [hg] at hg'; cases hg'
  have HNE := hideT' hne
  clear h1 h2 hk1 hN hR hne
  go_enter Try.func37, Try.ntmps37
  go_wp2_with fail
  refine HC1.out.mono ?_
  rintro e w1 ⟨rfl, hO1, hg1⟩
  rw [← HN.out]
  have hR1 : RowAt w1 w.heap.size 48 #[.int .i64 old, .slice o1 nc c1, .slice o2 nr c2] := HR.out.grown hg1 (fun e => by have := L1.out _ e.symm; omega)
  have f2 : w1.cell? ⟨w.heap.size, 2, none⟩ = some (.slice o2 nr c2) := by rw [cell_of_row w1 _ _ _ _ _ hR1]; rfl
  have hO2 : w1.ownsRow B2 3 1 (.slice o2 nr c2) nr xs2 := H2.out.kept hg1 (by
    rcases hh : (Value.slice o2 nr c2).ownBlock with _ | g
    · left; rfl
    · right
      intro e
      exact HNE.out (by rw [← e]; simp) (by rw [hh, e]))
  have HO1 := hideT' hO1
  have HG1 := hideT' hg1
  have HC2 := hideT' (markIntS_own _ nr _ N B2 _ hN0 (by have := HN.out; have := HK.out; omega) hO2)
  clear hO1 hO2 hg1 hR1
  obtain ⟨M, hM⟩ : ∃ M : Int, M = N + (nr : Int) := ⟨_, rfl⟩
  have HM := hideT' hM
  clear hM
  go_wp2_with fail
  refine HC2.out.mono ?_
  rintro e w2 ⟨rfl, hO2, hg2⟩
  rw [← HM.out]
  go_wp2
  go_ret
  refine ⟨by rw [← HN.out, ← HM.out]; rfl, ⟨?_, by rw [← HN.out]; exact hO2⟩, ?_⟩
  · exact HO1.out.kept hg2 (by
      rcases hh : (Value.slice o1 nc c1).ownBlock with _ | g
      · left; rfl
      · right
        intro e
        exact HNE.out (by rw [hh]; simp) (by rw [hh, e]))
  · have hs1 := HG1.out.size
    simp only [World.size_alloc] at hs1
    refine ⟨hg2.os.trans HG1.out.os, hg2.tape.trans HG1.out.tape, hg2.output.trans HG1.out.output, Nat.le_trans (by omega) hg2.size, fun j hj e1 e2 => ?_⟩
    rw [hg2.block j (by omega) e2, HG1.out.block j (by simp; omega) e1, Below.heap_alloc _ _ _ hj]

set_option maxHeartbeats 1000000 in
set_option maxRecDepth 100000 in
theorem heldHeap_in (old : Int) (v1 v2 : Value) (nc nr : Nat) (k : Int) (w : World) (hk0 : 0 < k) (hk1 : k + 4 * (nc : Int) + (nr : Int) ≤ 1099511627776) (h1 : InR w v1 cellL 4 (markL markCell 4 k nc)) (h2 : InR w v2 intL 1 (markL markInt 1 (k + 4 * (nc : Int)) nr)) :
    Calls Try.prog 40 #[.agg #[.int .i64 old, v1, v2], .int .i64 k] w fun e w' => e = .returned (.int .i64 (k + 4 * (nc : Int) + (nr : Int))) ∧ Below w.heap.size w w' := by
  obtain ⟨o1, c1, e1, x1⟩ := h1
  obtain ⟨o2, c2, e2, x2⟩ := h2
  rw [markL_len] at e1 e2
  subst e1 e2
  have hB : Below w.heap.size w (w.alloc (.cells #[.int .i64 old, .slice o1 nc c1, .slice o2 nr c2] 48)) := (Below.refl _ _).alloc (Nat.le_refl _) _
  have H1 : Hid (InR w (.slice o1 nc c1) cellL 4 (markL markCell 4 k nc)) := ⟨o1, c1, by rw [markL_len], x1⟩
  have H2 : Hid (InR w (.slice o2 nr c2) intL 1 (markL markInt 1 (k + 4 * (nc : Int)) nr)) := ⟨o2, c2, by rw [markL_len], x2⟩
  have HC1 := hideT' (heldCellS_in _ nc k _ hk0 (by omega) (H1.out.below hB))
  have hR := RowAt.new w 48 #[.int .i64 old, .slice o1 nc c1, .slice o2 nr c2]
  have HK : Hid (k + 4 * (nc : Int) + (nr : Int) ≤ 1099511627776) := hk1
  obtain ⟨N, hN⟩ : ∃ N : Int, N = k + 4 * (nc : Int) := ⟨_, rfl⟩
  have hN0 : 0 < N := by omega
  have hNn : ¬ N < 0 := by omega
  have HN := hideT' hN
  have HR := hideT' hR
  have HB := hideT' hB
  clear x1 x2 hk1 hN hR hB
  go_enter Try.func40, Try.ntmps40
  go_wp2_with fail
  refine HC1.out.mono ?_
  rintro e w1 ⟨rfl, hB1⟩
  rw [← HN.out]
  have hR1 := HR.out.below hB1 (by simp)
  have f2 : w1.cell? ⟨w.heap.size, 2, none⟩ = some (.slice o2 nr c2) := by rw [cell_of_row w1 _ _ _ _ _ hR1]; rfl
  have hB1' := HB.out.trans (hB1.mono (by simp))
  have HC2 : Hid (Calls Try.prog 22 #[.slice o2 nr c2, .int .i64 N] w1 fun e w' => e = .returned (.int .i64 (N + (nr : Int))) ∧ Below w1.heap.size w1 w') := heldIntS_in _ nr N w1 hN0 (by have := HN.out; have := HK.out; omega) (by have := H2.out.below hB1'; rwa [← HN.out] at this)
  obtain ⟨M, hM⟩ : ∃ M : Int, M = N + (nr : Int) := ⟨_, rfl⟩
  have hMn : ¬ M < 0 := by omega
  have HM := hideT' hM
  clear hM hR1 hB1
  go_wp2_with fail
  refine HC2.out.mono ?_
  rintro e w2 ⟨rfl, hB2⟩
  rw [← HM.out]
  have hB2' := hB1'.trans (hB2.mono hB1'.size)
  go_wp2
  go_ret
  exact ⟨by rw [← HN.out, ← HM.out]; rfl, hB2'⟩
end Go.Proofs.Ytoaancgmahdbnaa
