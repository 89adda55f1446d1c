/-
  The texts CbAbs, SpecGoodT, ImplRedB, SpecRed, MarkComb, CbTermArg, one behind the other, as one.
-/
import Derived.Test.YtbkdlkpiaekblaaTailAbstractCombA
import Derived.Test.YtbkdlkpiaekblaaSpecParts
import Derived.Deep.LoopGhost
import Derived.Deep.CutBlock
import Derived.Deep.DeepCutAuto
import Derived.Test.YtbkdlkpiaekblaaImplRed
import Derived.Maps.OwnIn
import Derived.Test.YtbkdlkpiaekblaaRecs2
import Derived.Test.YtbkdlkpiaekblaaRecComb
import Derived.Test.YtbkdlkpiaekblaaRecArg
import Derived.Test.YtbkdlkpiaekblaaCbTreeMem

/-
  What abstracted of the program and both AbstractComb answer.
-/
namespace Go.Proofs.Ytbkdlkpiaekblaa.CB
open Go.RowKit BL
set_option linter.unusedVariables false

set_option maxHeartbeats 1000000 in
theorem combLetter_any (c : Leaf) (hc : c.nm = 0) (w : World) :
    Calls Try.prog 126 #[.int .i64 c.kd] w fun e w' => (∃ b, e = .returned (.pointer (some ⟨b, 0, none⟩)) ∧ TrIn w' (fun x => w.heap.size ≤ x) (.var c) b) ∧ Below w.heap.size w w' := by
  have hz := zero_comb.1
  have hK : KidsAt w (fun _ => False) (.slice none 0 0) [] := ⟨none, 0, rfl, fun h => absurd rfl h, fun p hp => by simp at hp⟩
  have HK := hideT' hK
  have HN := hideT' (nodeOf_var c)
  rw [hc] at HN
  obtain ⟨k, hk⟩ : ∃ k, k = c.kd := ⟨_, rfl⟩
  rw [← hk] at HN ⊢
  clear hK hk
  go_enter Try.func126, Try.ntmps126
  go_wp2_with fail
  refine (treeOf_any k 0 0 _ [] w HK.out.pts (by simp) (by simp)).mono ?_
  intro e w2 hN
  obtain ⟨b', rfl, hbb, hTr, hB2⟩ := treeNew_at (t := .var c) HK.out HN.out hN
  have HF : Hid (TrIn w2 (fun x => w.heap.size ≤ x) (.var c) b' ∧ Below w.heap.size w w2) := ⟨TrIn.mono (fun x hx _ => by rcases hx with hx | hx; exact hx.elim; exact hx) hTr, hB2⟩
  clear hN hTr hB2
  go_wp2
  go_ret
  exact ⟨⟨b', rfl, HF.out.1⟩, HF.out.2⟩
set_option maxHeartbeats 2000000 in
theorem applied_any (s t : Lm) (b1 b2 : Nat) (P : Nat → Prop) (w : World) (h1 : TrIn w P s b1) (h2 : TrIn w P t b2) (hs : s.sz ≤ 1000000) (ht : t.sz ≤ 1000000) :
    Calls Try.prog 125 #[.pointer (some ⟨b1, 0, none⟩), .pointer (some ⟨b2, 0, none⟩)] w fun e w' => (∃ b, e = .returned (.pointer (some ⟨b, 0, none⟩)) ∧ TrIn w' (fun x => P x ∨ w.heap.size ≤ x) (.app s t) b) ∧ Below w.heap.size w w' := by
  have hz := zero_comb.1
  obtain ⟨W, hWd⟩ : ∃ W, W = w.alloc (.cells #[.pointer (some ⟨b1, 0, none⟩), .pointer (some ⟨b2, 0, none⟩)] 98) := ⟨_, rfl⟩
  have hB : Below w.heap.size w W := by rw [hWd]; exact (Below.refl _ _).alloc (Nat.le_refl _) _
  have hR : RowAt W w.heap.size 98 #[.pointer (some ⟨b1, 0, none⟩), .pointer (some ⟨b2, 0, none⟩)] := by rw [hWd]; exact RowAt.new _ _ _
  have hK : KidsAt W (fun x => P x ∨ w.heap.size ≤ x) (.slice (some ⟨w.heap.size, 0, none⟩) 2 2) [(b1, s), (b2, t)] := by
    refine ⟨_, 2, rfl, fun _ => ⟨w.heap.size, rfl, ⟨hR.lt, .inr (Nat.le_refl _)⟩, fun i p hi => ?_⟩, fun p hp => ?_⟩
    · match i, hi with
      | 0, hi => cases hi; rw [cell_of_row _ _ _ _ _ _ hR]; rfl
      | 1, hi => cases hi; rw [cell_of_row _ _ _ _ _ _ hR]; rfl
      | i + 2, hi => simp at hi
    · simp only [List.mem_cons, List.not_mem_nil, or_false] at hp
      rcases hp with rfl | rfl
      · exact TrIn.keep (w := w) hB.size (fun x _ hx => hB.block x hx) (fun x h _ => .inl h) h1
      · exact TrIn.keep (w := w) hB.size (fun x _ hx => hB.block x hx) (fun x h _ => .inl h) h2
  have HK := hideT' hK
  have HB := hideT' hB
  have HPS : Hid (∀ p ∈ ptsOf [(b1, s), (b2, t)], p.2.1 ≤ 1000000 ∧ p.2.2 ≤ 1000000) := by
    intro p hp
    have := s.dp_sz
    have := t.dp_sz
    simp only [ptsOf, List.map_cons, List.map_nil, List.mem_cons, List.not_mem_nil, or_false] at hp
    rcases hp with rfl | rfl <;> simp only <;> omega
  clear hK hB hR h1 h2
  go_enter Try.func125, Try.ntmps125
  go_wp2_with fail
  rw [← hWd]
  refine (treeOf_any 2 0 0 _ (ptsOf [(b1, s), (b2, t)]) W HK.out.pts (by simp [ptsOf]) HPS.out).mono ?_
  intro e w2 hN
  obtain ⟨b', rfl, hbb, hTr, hB2⟩ := treeNew_at (t := .app s t) HK.out (by simp [nodeOf]) hN
  have HF : Hid (TrIn w2 (fun x => P x ∨ w.heap.size ≤ x) (.app s t) b' ∧ Below w.heap.size w w2) := ⟨TrIn.mono (fun x hx _ => by rcases hx with hx | hx; exact hx; exact .inr (by have := HB.out.size; omega)) hTr, HB.out.trans (hB2.mono HB.out.size)⟩
  clear hN hTr hB2 hWd
  go_wp2
  go_ret
  exact ⟨⟨b', rfl, HF.out.1⟩, HF.out.2⟩
def AbC (x : Int) (N : Nat) : Prop := ∀ (t : Lm), t.sz ≤ N → ∀ (b : Nat) (P : Nat → Prop) (w : World), TrIn w P t b → t.sz ≤ 1000 →
    Calls Try.prog 85 #[.pointer (some ⟨b, 0, none⟩), .int .i64 x] w fun e w' => (∃ b', e = .returned (.pointer (some ⟨b', 0, none⟩)) ∧ TrIn w' (fun y => P y ∨ w.heap.size ≤ y) (t.abs x) b') ∧ Below w.heap.size w w'
set_option maxHeartbeats 8000000 in
set_option maxRecDepth 100000 in
theorem abstracted_step (x : Int) (N : Nat) (IH : ∀ n, n < N → AbC x n) : AbC x N := by
  intro t ht b P w hT hsz
  have HT := hideT' hT
  have HIH := hideT' IH
  have HTN := hideT' ht
  have HC := hideT' (hasVariable_any t b x P w hT (by omega))
  obtain ⟨r, hr⟩ : ∃ r, r = t.has x := ⟨_, rfl⟩
  rw [← hr] at HC
  have HR := hideT' hr
  clear IH ht hr hT
  go_enter Try.func85, Try.ntmps85
  go_wp2_with fail
  refine HC.out.mono ?_
  rintro e w1 ⟨rfl, hB1⟩
  have HB1 := hideT' hB1
  have hT1 : TrIn w1 (fun y => P y ∧ y < w.heap.size) t b := TrIn.keep (w := w) hB1.size (fun y _ hy => hB1.block y hy) (fun y h hy => ⟨h, hy⟩) HT.out
  have HT1 := hideT' hT1
  clear hB1
  cases r with
  | false =>
    have HE := hideT' (Lm.abs_no HR.out.symm)
    have HC2 := hideT' (combLetter_any .k rfl w1)
    clear hT1
    unfold Leaf.kd at HC2
    go_wp2_with fail
    refine HC2.out.mono ?_
    rintro e w2 ⟨⟨b2, rfl, hT2⟩, hB2⟩
    have hs2 := hB2.size
    have HC3 := hideT' (applied_any (.var .k) t b2 b (fun y => (P y ∧ y < w.heap.size) ∨ w1.heap.size ≤ y) w2 (TrIn.mono (fun y h _ => .inr h) hT2) (TrIn.keep (w := w1) hB2.size (fun y _ hy => hB2.block y hy) (fun y h _ => .inl h) HT1.out) (by simp [Lm.sz]) (by omega))
    have HB2 : Hid (Below w.heap.size w w2) := HB1.out.trans (hB2.mono HB1.out.size)
    have HS2 : Hid (w.heap.size ≤ w1.heap.size) := HB1.out.size
    clear hT2 hB2 hs2
    go_wp2_with fail
    refine HC3.out.mono ?_
    rintro e w3 ⟨⟨b3, rfl, hT3⟩, hB3⟩
    have HF : Hid (TrIn w3 (fun y => P y ∨ w.heap.size ≤ y) (.app (.var .k) t) b3 ∧ Below w.heap.size w w3) := ⟨TrIn.mono (fun y hy _ => by have := HS2.out; have := HB2.out.size; rcases hy with (hy | hy) | hy; exact .inl hy.1; exact .inr (by omega); exact .inr (by omega)) hT3, HB2.out.trans (hB3.mono HB2.out.size)⟩
    clear hT3 hB3
    go_wp2
    go_ret
    exact ⟨⟨b3, rfl, by rw [HE.out]; exact HF.out.1⟩, HF.out.2⟩
  | true =>
    have HC2 := hideT' (isVariable_any t b x _ w1 hT1)
    rcases has_kd1 HR.out.symm with hk1 | ⟨s, u, hsu⟩
    · have HE : Hid (t.abs x = .var .i ∧ t.isV x = true) := by
        cases t with
        | var c => exact ⟨Lm.abs_var HR.out.symm, HR.out.symm⟩
        | app a b => simp [Lm.kd] at hk1
      rw [HE.out.2] at HC2
      have HC3 := hideT' (combLetter_any .i rfl w1)
      unfold Leaf.kd at HC3
      clear hT1 hk1
      go_wp2_with fail
      refine HC2.out.mono ?_
      rintro e w2 ⟨rfl, hw2⟩
      rw [hw2]
      clear hw2
      go_wp2_with fail
      refine HC3.out.mono ?_
      rintro e w3 ⟨⟨b3, rfl, hT3⟩, hB3⟩
      have HF : Hid (TrIn w3 (fun y => P y ∨ w.heap.size ≤ y) (.var .i) b3 ∧ Below w.heap.size w w3) := ⟨TrIn.mono (fun y hy _ => .inr (by have := HB1.out.size; omega)) hT3, HB1.out.trans (hB3.mono HB1.out.size)⟩
      clear hT3 hB3
      go_wp2
      go_ret
      exact ⟨⟨b3, rfl, by rw [HE.out.1]; exact HF.out.1⟩, HF.out.2⟩
    · subst hsu
      have HV0 : Hid ((Lm.app s u).isV x = false) := rfl
      rw [HV0.out] at HC2
      obtain ⟨o, c, hpc, hkid⟩ := hT1.parts
      simp only [Lm.kids, List.length_cons, List.length_nil, Nat.zero_add, Nat.reduceAdd] at hpc
      obtain ⟨g, bs, rfl, hg, _, hcs, hTs⟩ := hkid 0 s rfl
      obtain ⟨g', bu, e', _, _, hcu, hTu⟩ := hkid 1 u rfl
      cases e'
      have hbl := hT1.lt
      simp only [Lm.sz] at hsz
      have HSU := hideT' (And.intro hTs hTu)
      have HCU : Hid (∀ k, Calls Try.prog 89 #[.pointer (some ⟨bu, 0, none⟩), .int .i64 x] (w1.drewN k) fun e w' => e = .returned (.bool (u.isV x)) ∧ w' = w1.drewN k) := fun k => isVariable_any u bu x _ (w1.drewN k) (hTu.drN k)
      have HCS : Hid (∀ k, Calls Try.prog 124 #[.pointer (some ⟨bs, 0, none⟩), .int .i64 x] (w1.drewN k) fun e w' => e = .returned (.bool (s.has x)) ∧ Below w1.heap.size w1 w') := fun k => (hasVariable_any s bs x _ (w1.drewN k) (hTs.drN k) (by omega)).mono fun e w' h => ⟨h.1, ⟨h.2.os, h.2.tape, h.2.output, h.2.size, h.2.block⟩⟩
      obtain ⟨ru, hru⟩ : ∃ ru, ru = u.isV x := ⟨_, rfl⟩
      obtain ⟨rs, hrs⟩ : ∃ rs, rs = s.has x := ⟨_, rfl⟩
      rw [← hru] at HCU
      rw [← hrs] at HCS
      have HRSU := hideT' (And.intro hrs hru)
      have HREC : Hid (∀ w2, Below w1.heap.size w1 w2 → Calls Try.prog 126 #[.int .i64 3] w2 fun e w' => (∃ b, e = .returned (.pointer (some ⟨b, 0, none⟩)) ∧ TrIn w' (fun x => w2.heap.size ≤ x) (.var .s) b) ∧ Below w2.heap.size w2 w') := fun w2 _ => combLetter_any .s rfl w2
      clear hT1 hkid hTs hTu hru hrs
      go_wp2_with fail
      refine HC2.out.mono ?_
      rintro e w2 ⟨rfl, hw2⟩
      rw [hw2]
      clear hw2
      go_wp2_with fail
      go_quiet (fail)
      go_wp2_with fail
      refine (HCU.out _).mono ?_
      rintro e w3 ⟨rfl, hw3⟩
      cases ru with
      | true =>
        rw [hw3]
        clear hw3
        go_wp2_with fail
        refine (HCS.out _).mono ?_
        rintro e w4 ⟨rfl, hB4⟩
        cases rs with
        | false =>
          have HE : Hid ((Lm.app s u).abs x = s) := Lm.abs_eta HR.out.symm (by rw [← HRSU.out.1, ← HRSU.out.2]; rfl)
          have HF : Hid (TrIn w4 (fun y => P y ∨ w.heap.size ≤ y) s bs ∧ Below w.heap.size w w4) := ⟨TrIn.keep (w := w1) hB4.size (fun y _ hy => hB4.block y hy) (fun y h _ => .inl h.1) HSU.out.1, HB1.out.trans (hB4.mono HB1.out.size)⟩
          clear hB4
          go_wp2
          go_ret
          exact ⟨⟨bs, rfl, by rw [HE.out]; exact HF.out.1⟩, HF.out.2⟩
        | true =>
          have HE : Hid ((Lm.app s u).abs x = .app (.app (.var .s) (s.abs x)) (u.abs x)) := Lm.abs_app HR.out.symm (by rw [← HRSU.out.1, ← HRSU.out.2]; rfl)
          have HB4 := hideT' hB4
          clear hB4
          have hs4 := HB4.out.size
          have HC5 := hideT' (combLetter_any .s rfl w4)
          unfold Leaf.kd at HC5
          go_wp2_with fail
          refine HC5.out.mono ?_
          rintro e w5 ⟨⟨b5, rfl, hT5⟩, hB5⟩
          have hs5 := hB5.size
          have hB15 : Below w1.heap.size w1 w5 := HB4.out.trans (hB5.mono HB4.out.size)
          have HB15 := hideT' hB15
          have HT5 := hideT' hT5
          have HC6 := hideT' (HIH.out s.sz (by have := HTN.out; simp only [Lm.sz] at this; omega) s (Nat.le_refl _) bs (fun y => P y ∧ y < w.heap.size) w5 (TrIn.below hB15 HSU.out.1) (by omega))
          clear hT5 hB5 hB15
          go_wp2_with fail
          refine HC6.out.mono ?_
          rintro e w6 ⟨⟨b6, rfl, hT6⟩, hB6⟩
          have hs6 := hB6.size
          have hz6 := Lm.abs_sz x s
          have HC7 := hideT' (applied_any (.var .s) (s.abs x) b5 b6 (fun y => (P y ∧ y < w.heap.size) ∨ w4.heap.size ≤ y) w6 (TrIn.keep (w := w5) hB6.size (fun y _ hy => hB6.block y hy) (fun y h _ => .inr h) HT5.out) (TrIn.mono (fun y h _ => h.imp id (fun h => by omega)) hT6) (by simp [Lm.sz]) (by omega))
          have HB16 : Hid (Below w1.heap.size w1 w6) := HB15.out.trans (hB6.mono HB15.out.size)
          clear hT6 hB6
          go_wp2_with fail
          refine HC7.out.mono ?_
          rintro e w7 ⟨⟨b7, rfl, hT7⟩, hB7⟩
          have hs7 := hB7.size
          have hB17 : Below w1.heap.size w1 w7 := HB16.out.trans (hB7.mono HB16.out.size)
          have HB17 := hideT' hB17
          have HT7 := hideT' hT7
          have HC8 := hideT' (HIH.out u.sz (by have := HTN.out; simp only [Lm.sz] at this; omega) u (Nat.le_refl _) bu (fun y => P y ∧ y < w.heap.size) w7 (TrIn.below hB17 HSU.out.2) (by omega))
          clear hT7 hB7 hB17
          go_wp2_with fail
          refine HC8.out.mono ?_
          rintro e w8 ⟨⟨b8, rfl, hT8⟩, hB8⟩
          have hs8 := hB8.size
          have hz8 := Lm.abs_sz x u
          have HC9 := hideT' (applied_any (.app (.var .s) (s.abs x)) (u.abs x) b7 b8 (fun y => (P y ∧ y < w.heap.size) ∨ w4.heap.size ≤ y) w8 (TrIn.keep (w := w7) hB8.size (fun y _ hy => hB8.block y hy) (fun y h _ => by rcases h with h | h; exact h; exact .inr (by omega)) HT7.out) (TrIn.mono (fun y h _ => h.imp id (fun h => by omega)) hT8) (by simp only [Lm.sz]; omega) (by omega))
          have HB18 : Hid (Below w1.heap.size w1 w8) := HB17.out.trans (hB8.mono HB17.out.size)
          clear hT8 hB8
          go_wp2_with fail
          refine HC9.out.mono ?_
          rintro e w9 ⟨⟨b9, rfl, hT9⟩, hB9⟩
          have HF : Hid (TrIn w9 (fun y => P y ∨ w.heap.size ≤ y) (.app (.app (.var .s) (s.abs x)) (u.abs x)) b9 ∧ Below w.heap.size w w9) := ⟨TrIn.mono (fun y hy _ => by have := HB1.out.size; rcases hy with (hy | hy) | hy; exact .inl hy.1; exact .inr (by omega); exact .inr (by omega)) hT9, (HB1.out.trans (HB18.out.mono HB1.out.size)).trans (hB9.mono (by have := HB1.out.size; omega))⟩
          clear hT9 hB9
          go_wp2
          go_ret
          exact ⟨⟨b9, rfl, by rw [HE.out]; exact HF.out.1⟩, HF.out.2⟩
      | false =>
        have HE : Hid ((Lm.app s u).abs x = .app (.app (.var .s) (s.abs x)) (u.abs x)) := Lm.abs_app HR.out.symm (by rw [← HRSU.out.2]; rfl)
        have HB4 : Hid (Below w1.heap.size w1 w3) := by unfold Hid; rw [hw3]; exact below_drN (Below.refl _ _) _
        obtain ⟨w4, hw4⟩ : ∃ w4, w4 = w3 := ⟨_, rfl⟩
        rw [← hw4] at HB4 ⊢
        clear hw3 hw4
        have hs4 := HB4.out.size
        have HC5 := hideT' (combLetter_any .s rfl w4)
        unfold Leaf.kd at HC5
        go_wp2_with fail
        refine HC5.out.mono ?_
        rintro e w5 ⟨⟨b5, rfl, hT5⟩, hB5⟩
        have hs5 := hB5.size
        have hB15 : Below w1.heap.size w1 w5 := HB4.out.trans (hB5.mono HB4.out.size)
        have HB15 := hideT' hB15
        have HT5 := hideT' hT5
        have HC6 := hideT' (HIH.out s.sz (by have := HTN.out; simp only [Lm.sz] at this; omega) s (Nat.le_refl _) bs (fun y => P y ∧ y < w.heap.size) w5 (TrIn.below hB15 HSU.out.1) (by omega))
        clear hT5 hB5 hB15
        go_wp2_with fail
        refine HC6.out.mono ?_
        rintro e w6 ⟨⟨b6, rfl, hT6⟩, hB6⟩
        have hs6 := hB6.size
        have hz6 := Lm.abs_sz x s
        have HC7 := hideT' (applied_any (.var .s) (s.abs x) b5 b6 (fun y => (P y ∧ y < w.heap.size) ∨ w4.heap.size ≤ y) w6 (TrIn.keep (w := w5) hB6.size (fun y _ hy => hB6.block y hy) (fun y h _ => .inr h) HT5.out) (TrIn.mono (fun y h _ => h.imp id (fun h => by omega)) hT6) (by simp [Lm.sz]) (by omega))
        have HB16 : Hid (Below w1.heap.size w1 w6) := HB15.out.trans (hB6.mono HB15.out.size)
        clear hT6 hB6
        go_wp2_with fail
        refine HC7.out.mono ?_
        rintro e w7 ⟨⟨b7, rfl, hT7⟩, hB7⟩
        have hs7 := hB7.size
        have hB17 : Below w1.heap.size w1 w7 := HB16.out.trans (hB7.mono HB16.out.size)
        have HB17 := hideT' hB17
        have HT7 := hideT' hT7
        have HC8 := hideT' (HIH.out u.sz (by have := HTN.out; simp only [Lm.sz] at this; omega) u (Nat.le_refl _) bu (fun y => P y ∧ y < w.heap.size) w7 (TrIn.below hB17 HSU.out.2) (by omega))
        clear hT7 hB7 hB17
        go_wp2_with fail
        refine HC8.out.mono ?_
        rintro e w8 ⟨⟨b8, rfl, hT8⟩, hB8⟩
        have hs8 := hB8.size
        have hz8 := Lm.abs_sz x u
        have HC9 := hideT' (applied_any (.app (.var .s) (s.abs x)) (u.abs x) b7 b8 (fun y => (P y ∧ y < w.heap.size) ∨ w4.heap.size ≤ y) w8 (TrIn.keep (w := w7) hB8.size (fun y _ hy => hB8.block y hy) (fun y h _ => by rcases h with h | h; exact h; exact .inr (by omega)) HT7.out) (TrIn.mono (fun y h _ => h.imp id (fun h => by omega)) hT8) (by simp only [Lm.sz]; omega) (by omega))
        have HB18 : Hid (Below w1.heap.size w1 w8) := HB17.out.trans (hB8.mono HB17.out.size)
        clear hT8 hB8
        go_wp2_with fail
        refine HC9.out.mono ?_
        rintro e w9 ⟨⟨b9, rfl, hT9⟩, hB9⟩
        have HF : Hid (TrIn w9 (fun y => P y ∨ w.heap.size ≤ y) (.app (.app (.var .s) (s.abs x)) (u.abs x)) b9 ∧ Below w.heap.size w w9) := ⟨TrIn.mono (fun y hy _ => by have := HB1.out.size; rcases hy with (hy | hy) | hy; exact .inl hy.1; exact .inr (by omega); exact .inr (by omega)) hT9, (HB1.out.trans (HB18.out.mono HB1.out.size)).trans (hB9.mono (by have := HB1.out.size; omega))⟩
        clear hT9 hB9
        go_wp2
        go_ret
        exact ⟨⟨b9, rfl, by rw [HE.out]; exact HF.out.1⟩, HF.out.2⟩
theorem abstracted_all (x : Int) : ∀ N, AbC x N := by
  intro N
  induction N using Nat.strongRecOn with
  | _ N IH => exact abstracted_step x N IH
def AbT (l : List Nd) (x : Int) : Option Lm := match readP' l with
  | some t => if 0 ≤ x ∧ x ≤ 999 then some (t.abs x) else none
  | _ => none
theorem AbT_l {l : List Nd} {k : Int} (h : readP' l = none) : AbT l k = none := by unfold AbT; rw [h]
theorem AbT_k {l : List Nd} {k : Int} (h : ¬ (0 ≤ k ∧ k ≤ 999)) : AbT l k = none := by unfold AbT; cases readP' l <;> simp [h]
theorem AbT_ok {l : List Nd} {k : Int} {t : Lm} (h1 : readP' l = some t) (h : 0 ≤ k ∧ k ≤ 999) : AbT l k = some (t.abs k) := by unfold AbT; rw [h1]; simp [h]
set_option maxHeartbeats 4000000 in
theorem implAbstractComb_any (l : List Nd) (k : Int) (v : Value) (w : World) (hv : NdIn w v l) (hl : l.length ≤ 1048576) :
    Calls Try.prog 41 #[v, .int .i64 k] w fun e w' => TOut w (AbT l k) e w' ∧ Below w.heap.size w w' := by
  have HC := hideT' (readTree_any l v w hv hl)
  clear hv
  go_enter Try.func41, Try.ntmps41
  go_wp2_with fail
  refine HC.out.mono ?_
  rintro e w1 ⟨hans, hB1⟩
  have HB1 := hideT' hB1
  clear hB1
  rcases hans with ⟨p, rfl, hn⟩ | ⟨t, b, rfl, hr, hT⟩
  · have HN := hideT' (AbT_l (k := k) hn)
    clear hn
    go_wp2
    go_ret2
    exact ⟨TOut.bad HN.out, HB1.out⟩
  · have f1 := readP'_facts hr
    by_cases hk : 0 ≤ k ∧ k ≤ 999
    · have HN := hideT' (AbT_ok hr hk)
      obtain ⟨hk1, hk2⟩ := hk
      have HC3 := hideT' (abstracted_all k t.sz t (Nat.le_refl _) b _ w1 hT (by omega))
      have HSZ : Hid ((t.abs k).sz ≤ 1000000) := by unfold Hid; have := Lm.abs_sz k t; omega
      clear hr hT f1
      go_wp2_with fail
      refine HC3.out.mono ?_
      rintro e w3 ⟨⟨b3, rfl, hT3⟩, hB3⟩
      have HB3 : Hid (Below w.heap.size w w3) := HB1.out.trans (hB3.mono HB1.out.size)
      have HC4 := hideT' (tellTree_any _ b3 _ w3 hT3 HSZ.out)
      clear hT3 hB3
      go_wp2_with fail
      refine HC4.out.mono ?_
      rintro e w4 ⟨hT4, hB4⟩
      obtain ⟨u4, rfl, hO4⟩ := hT4
      have HF : Hid (TOut w (AbT l k) (.returned (.tuple #[u4, .bool (t.abs k).good])) w4 ∧ Below w.heap.size w w4) := ⟨ToldT.out (t := t.abs k) ⟨u4, rfl, hO4⟩ HB3.out.size HN.out, HB3.out.trans (hB4.mono HB3.out.size)⟩
      obtain ⟨q, hq⟩ : ∃ q, q = (t.abs k).good := ⟨_, rfl⟩
      rw [← hq] at HF ⊢
      clear hq hO4 hB4
      go_wp2
      go_ret2
      exact HF.out
    · have HN := hideT' (AbT_k (l := l) hk)
      clear hr hT f1
      by_cases h0 : k < 0
      · go_wp2
        go_ret2
        exact ⟨TOut.bad HN.out, HB1.out⟩
      · have h9 : 999 < k := by omega
        go_wp2
        go_ret2
        exact ⟨TOut.bad HN.out, HB1.out⟩
set_option maxHeartbeats 4000000 in
theorem specAbstractComb_any (l : List Nd) (k : Int) (v : Value) (w : World) (hv : NdIn w v l) (hl : l.length ≤ 1048576) :
    Calls Try.prog 40 #[v, .int .i64 k] w fun e w' => TOut w (AbT l k) e w' ∧ Below w.heap.size w w' := by
  have HV := hideT' hv
  have HC := hideT' (specGoodComb_any l v w hv hl)
  clear hv
  cases hr : readP' l with
  | none =>
    have HN := hideT' (AbT_l (k := k) hr)
    rw [goodS_none hr] at HC
    clear hr
    go_enter Try.func40, Try.ntmps40
    go_wp2_with fail
    refine HC.out.mono ?_
    rintro e w1 ⟨rfl, hB1⟩
    go_wp2
    go_ret2
    exact ⟨TOut.bad HN.out, hB1⟩
  | some t =>
    rw [goodS_some hr] at HC
    have HR := hideT' hr
    clear hr
    go_enter Try.func40, Try.ntmps40
    go_wp2_with fail
    refine HC.out.mono ?_
    rintro e w2 ⟨rfl, hB2⟩
    have HB2 := hideT' hB2
    clear hB2
    go_wp2_with fail
    refine (l1In_any k 0 999 _).mono ?_
    rintro e w3 ⟨rfl, hw3⟩
    rw [hw3]
    clear hw3
    by_cases hk : 0 ≤ k ∧ k ≤ 999
    · have HN := hideT' (AbT_ok HR.out hk)
      rw [decide_eq_true hk.1, decide_eq_true hk.2]
      clear hk
      have HC3 := hideT' (lcTree_whole l t v w2 (HV.out.below HB2.out) HR.out)
      go_wp2_with fail
      refine HC3.out.mono ?_
      rintro e w4 ⟨⟨z4, rfl, hz4⟩, hB4⟩
      have HB4 : Hid (Below w.heap.size w w4) := HB2.out.trans (hB4.mono HB2.out.size)
      have HC5 := hideT' (ldAbstract_all k t.sz t (Nat.le_refl _) z4 _ w4 hz4)
      clear hB4 hz4
      go_wp2_with fail
      refine HC5.out.mono ?_
      rintro e w6 ⟨⟨z6, rfl, hz6⟩, hB6⟩
      have HB6 : Hid (Below w.heap.size w w6) := HB4.out.trans (hB6.mono HB4.out.size)
      have HC6 := hideT' (lcTold_any (t.abs k) z6 _ w6 hz6)
      clear hB6 hz6
      go_wp2_with fail
      refine HC6.out.mono ?_
      rintro e w7 ⟨hT4, hB4⟩
      obtain ⟨u4, rfl, hO4⟩ := hT4
      have HF : Hid (TOut w (AbT l k) (.returned (.tuple #[u4, .bool (t.abs k).good])) w7 ∧ Below w.heap.size w w7) := ⟨ToldT.out (t := t.abs k) ⟨u4, rfl, hO4⟩ HB6.out.size HN.out, HB6.out.trans (hB4.mono HB6.out.size)⟩
      obtain ⟨q, hq⟩ : ∃ q, q = (t.abs k).good := ⟨_, rfl⟩
      rw [← hq] at HF ⊢
      clear hq hO4 hB4
      go_wp2
      go_ret2
      exact HF.out
    · have HN := hideT' (AbT_k (l := l) hk)
      have hbb : (decide (0 ≤ k) && decide (k ≤ 999)) = false := by simpa using hk
      rw [hbb]
      clear hbb hk
      go_wp2
      go_ret2
      exact ⟨TOut.bad HN.out, HB2.out⟩
end Go.Proofs.Ytbkdlkpiaekblaa.CB

/-
  What spec.GoodTerm answers.
-/
namespace Go.Proofs.Ytbkdlkpiaekblaa
open Go.RowKit BL
set_option linter.unusedVariables false

theorem goodS_bad {l : List Nd} {k : Nat} (hk : k < l.length) (h : nodeOk l k = false) : goodS l = false := by
  unfold goodS
  rw [Bool.and_eq_false_iff]
  refine .inr ?_
  rw [List.all_eq_false]
  exact ⟨k, List.mem_range.2 hk, by simp [h]⟩
theorem goodS_short {l : List Nd} (h : (decide (1 ≤ l.length) && decide (l.length ≤ 150)) = false) : goodS l = false := by
  unfold goodS; rw [h, Bool.false_and]
theorem goodS_all {l : List Nd} (h : (decide (1 ≤ l.length) && decide (l.length ≤ 150)) = true) (ha : ∀ k, k < l.length → nodeOk l k = true) : goodS l = true := by
  unfold goodS; rw [h, Bool.true_and, List.all_eq_true]
  intro k hk
  exact ha k (List.mem_range.1 hk)
theorem nodeOk_up {l : List Nd} {k : Nat} (h : nodeOk l k = true) : -1 ≤ upN l k ∧ upN l k ≤ (k : Int) - 1 := by
  unfold nodeOk at h
  simp only [Bool.and_eq_true, decide_eq_true_eq] at h
  exact ⟨h.1.2.1, h.1.2.2⟩
def endB (R : Bool) (dd pn : Nat) (kd nm : Int) : Bool := R && (decide (dd ≤ 40) && (decide (pn = wantN kd) && ((decide (0 ≤ nm) && decide (nm ≤ 99)) && (decide (kd = 1) || decide (nm = 0)))))
theorem endB_R {dd pn : Nat} {kd nm : Int} : endB false dd pn kd nm = false := rfl
theorem endB_dd {R : Bool} {dd pn : Nat} {kd nm : Int} (h : ¬ dd ≤ 40) : endB R dd pn kd nm = false := by unfold endB; rw [decide_eq_false h]; simp
theorem endB_pn {R : Bool} {dd pn : Nat} {kd nm : Int} (h : ¬ pn = wantN kd) : endB R dd pn kd nm = false := by unfold endB; rw [decide_eq_false h]; simp
theorem endB_nm {R : Bool} {dd pn : Nat} {kd nm : Int} (h : ¬ (0 ≤ nm ∧ nm ≤ 99)) : endB R dd pn kd nm = false := by
  have : (decide (0 ≤ nm) && decide (nm ≤ 99)) = false := by simpa using h
  unfold endB; rw [this]; simp
theorem endB_n0 {R : Bool} {dd pn : Nat} {kd nm : Int} (h : ¬ kd = 1) (h0 : ¬ nm = 0) : endB R dd pn kd nm = false := by unfold endB; rw [decide_eq_false h, decide_eq_false h0]; simp
theorem endB_ok {dd pn : Nat} {kd nm : Int} (h1 : dd ≤ 40) (h2 : pn = wantN kd) (h3 : 0 ≤ nm) (h4 : nm ≤ 99) (h5 : kd = 1 ∨ nm = 0) : endB true dd pn kd nm = true := by
  unfold endB; rw [decide_eq_true h1, decide_eq_true h2, decide_eq_true h3, decide_eq_true h4]
  rcases h5 with h | h <;> simp [h]
theorem wantN_le (k : Int) : wantN k ≤ 2 := by unfold wantN; split; omega; split <;> omega
/-- What the last line of the model asks of a node. -/
def nodeEnd (l : List Nd) (k : Nat) (ar : Bool) (dp : Nat) (q : Int) : Bool :=
  ar && (decide (dp ≤ 40) && (decide ((partsTo l k l.length).length = wantN q) && ((decide (0 ≤ (ndAt l k).n) && decide ((ndAt l k).n ≤ 99)) && (decide (q = 1) || decide ((ndAt l k).n = 0)))))
theorem nodeOk_eq (l : List Nd) (k : Nat) : nodeOk l k = ((decide (k = 0) == decide (upN l k = -1)) && (decide (-1 ≤ upN l k) && decide (upN l k ≤ (k : Int) - 1)) && ((decide ((ndAt l k).k = 1) || (decide ((ndAt l k).k = 2) || decide ((ndAt l k).k = 3))) && nodeEnd l k (decide (k = 0) || ancF l (upN l k) k ((k : Int) - 1)) (dpF l (k + 1) k) (ndAt l k).k)) := rfl
theorem dpF_le (l : List Nd) : ∀ (f : Nat) (a : Int), dpF l f a ≤ f
  | 0, _ => Nat.le_refl _
  | f + 1, a => by rw [dpF]; split; omega; have := dpF_le l f (upN l a.toNat); omega

set_option maxHeartbeats 8000000 in
set_option maxRecDepth 100000 in
theorem specGoodTerm_any (l : List Nd) (v : Value) (w : World) (hv : NdIn w v l) (hl : l.length ≤ 1048576) :
    Calls Try.prog 52 #[v] w fun e w' => e = .returned (.bool (goodS l)) ∧ Below w.heap.size w w' := by
  have HV := hideT' hv
  obtain ⟨o, cap, rfl⟩ := hv.len
  clear hv
  obtain ⟨r, hr⟩ : ∃ r, r = goodS l := ⟨_, rfl⟩
  rw [← hr]
  have HR := hideT' hr
  obtain ⟨n, hn⟩ : ∃ n, n = l.length := ⟨_, rfl⟩
  have HNN := hideT' hn
  rw [← hn] at hl ⊢
  clear hr
  by_cases hlen : 1 ≤ n ∧ n ≤ 150
  · have hz := zero_term.1
    have HL : Hid ((decide (1 ≤ l.length) && decide (l.length ≤ 150)) = true) := by unfold Hid; rw [← hn]; simp [hlen.1, hlen.2]
    clear hn
    obtain ⟨h1, h150⟩ := hlen
    have hb1 : decide ((1 : Int) ≤ (n : Int)) = true := decide_eq_true (by omega)
    have hb2 : decide ((n : Int) ≤ (150 : Int)) = true := decide_eq_true (by omega)
    go_enter Try.func52, Try.ntmps52
    go_wp2_with fail
    refine (l1In_any (n : Int) 1 150 _).mono ?_
    rintro e w1 ⟨rfl, rfl⟩
    rw [hb1, hb2]
    clear hb1 hb2
    go_wp2_with fail
    go_loopg [16] n (fun g i wr => ∃ k : Nat, g = n - k ∧ k ≤ n ∧ i = .int .i64 (k : Int) ∧ (∀ j, j < k → nodeOk l j = true) ∧ Below w1.heap.size w1 wr)
    case atStart => exact ⟨0, rfl, by omega, by go_num, fun j hj => absurd hj (by omega), Below.refl _ _⟩
    case round =>
      obtain ⟨k, hg, hk, rfl, hok, hW⟩ := hrel
      have HOK := hideT' hok
      clear hok
      by_cases hlt : (k : Int) < (n : Int)
      · obtain ⟨nd, hnd⟩ : ∃ nd, nd = ndAt l k := ⟨_, rfl⟩
        obtain ⟨b, rfl, hb, c0, c1, c2⟩ := (HV.out.below hW).cells (by have := HNN.out; omega) hnd
        have HND := hideT' hnd
        have HUP : Hid (upN l k = nd.u) := by unfold Hid upN; rw [← hnd]
        have hb' : b < wr.heap.size := hb
        clear hb hnd
        obtain ⟨kd, nm, u⟩ := nd
        simp only at c0 c1 c2 HUP
        have HW := hideT' hW
        have hsz := hW.size
        clear hW
        obtain ⟨q0, hq0⟩ : ∃ q0, ((k : Int) == 0) = q0 := ⟨_, rfl⟩
        obtain ⟨q1, hq1⟩ : ∃ q1, (u == (-1 : Int)) = q1 := ⟨_, rfl⟩
        have HQ0 : Hid (q0 = decide (k = 0)) := by unfold Hid; rw [← hq0, Bool.eq_iff_iff, beq_iff_eq, decide_eq_true_eq]; omega
        have HQ1 : Hid (q1 = decide (u = -1)) := by unfold Hid; rw [← hq1, Bool.eq_iff_iff, beq_iff_eq, decide_eq_true_eq]
        have HBAD : Hid (nodeOk l k = false → r = false) := by
          unfold Hid; intro h; rw [HR.out]; exact goodS_bad (by have := HNN.out; omega) h
        by_cases hqq : q0 = q1
        · subst hqq
          by_cases hin : -1 ≤ u ∧ u ≤ (k : Int) - 1
          · obtain ⟨hi1, hi2⟩ := hin
            have hb1 : decide (-1 ≤ u) = true := decide_eq_true hi1
            have hb2 : decide (u ≤ (k : Int) - 1) = true := decide_eq_true hi2
            have HUPS : Hid (∀ j, j ≤ k → -1 ≤ upN l j ∧ upN l j ≤ (j : Int) - 1) := by
              unfold Hid; intro j hj
              by_cases e : j = k
              · subst e; rw [HUP.out]; exact ⟨hi1, hi2⟩
              · exact nodeOk_up (HOK.out j (by omega))
            obtain ⟨tb, htb⟩ : ∃ tb, tb = wr.heap.size := ⟨_, rfl⟩
            have HEND : Hid (nodeOk l k = ((decide (kd = 1) || (decide (kd = 2) || decide (kd = 3))) && nodeEnd l k (q0 || ancF l u k ((k : Int) - 1)) (dpF l (k + 1) k) kd)) := by
              unfold Hid
              rw [nodeOk_eq, HUP.out, ← HND.out, ← HQ0.out, ← HQ1.out, hb1, hb2]
              simp
            go_wp2_with fail
            refine (l1In_any u (-1) ((k : Int) - 1) _).mono ?_
            rintro e w2 ⟨rfl, hw2⟩
            rw [hb1, hb2]
            have HW2 : Hid (Below w1.heap.size w1 w2) := by unfold Hid; rw [hw2]; exact HW.out.alloc hsz _
            have hrow : RowAt w2 tb 69 #[.int .i64 kd, .int .i64 nm, .int .i64 u] := by rw [hw2, htb]; exact RowAt.new _ _ _
            have d0 : w2.cell? ⟨tb, 0, none⟩ = some (.int .i64 kd) := by rw [cell_of_row _ _ _ _ _ _ hrow]; rfl
            have d1 : w2.cell? ⟨tb, 1, none⟩ = some (.int .i64 nm) := by rw [cell_of_row _ _ _ _ _ _ hrow]; rfl
            have d2 : w2.cell? ⟨tb, 2, none⟩ = some (.int .i64 u) := by rw [cell_of_row _ _ _ _ _ _ hrow]; rfl
            rw [← htb]
            have HTB : Hid (tb < w2.heap.size) := hrow.lt
            clear hw2 hrow hb1 hb2 hb' htb
            obtain ⟨R, hRR⟩ : ∃ R, R = (q0 || ancF l u k ((k : Int) - 1)) := ⟨_, rfl⟩
            have HRR := hideT' hRR
            clear hRR c0 c1 c2
            go_upto_block 2 with fail
            go_cut [5, 6, 16] from 16 to 102 (fun ar at_ ix wx => ar = .bool R ∧ (∃ a : Int, at_ = .int .i64 a) ∧ ix = .int .i64 (k : Int) ∧ w2 = wx)
            case first =>
              go_wp2_with fail
              go_loopg [5, 6] k (fun g ar at_ wx => ∃ (a : Int) (q : Bool) (f : Nat), g = (a + 1).toNat ∧ ar = .bool q ∧ at_ = .int .i64 a ∧ -1 ≤ a ∧ a ≤ (k : Int) - 1 ∧ a < f ∧ Hid ((q || ancF l u f a) = R) ∧ w2 = wx)
              case atStart => exact ⟨(k : Int) - 1, q0, k, by omega, rfl, by go_num, by omega, by omega, by omega, HRR.out.symm, rfl⟩
              case round =>
                obtain ⟨a, q, f, hga, rfl, rfl, ha1, ha2, haf, HA, rfl⟩ := hrel
                by_cases hgo : 0 ≤ a ∧ q = false
                · obtain ⟨ha0, rfl⟩ := hgo
                  obtain ⟨m, rfl⟩ : ∃ m : Nat, a = (m : Int) := ⟨a.toNat, by omega⟩
                  obtain ⟨nd, hnd⟩ : ∃ nd, nd = ndAt l m := ⟨_, rfl⟩
                  obtain ⟨b', e', hb', c0, c1, c2⟩ := (HV.out.below HW2.out).cells (by have := HNN.out; omega) hnd
                  cases e'
                  have hups := HUPS.out m (by omega)
                  have HUM : Hid (upN l m = nd.u) := by unfold Hid upN; rw [← hnd]
                  rw [HUM.out] at hups
                  clear hnd hb' c0 c1
                  obtain ⟨kd', nm', u'⟩ := nd
                  simp only at c2 HUM hups
                  obtain ⟨q', hq'⟩ : ∃ q', ((m : Int) == u) = q' := ⟨_, rfl⟩
                  have HQ' : Hid ((q' || ancF l u (f - 1) u') = R) := by
                    unfold Hid
                    rw [← HA.out]
                    obtain ⟨f', rfl⟩ : ∃ f', f = f' + 1 := ⟨f - 1, by omega⟩
                    rw [ancF, if_neg (by omega), Int.toNat_natCast, HUM.out, ← hq', Nat.add_sub_cancel]
                    by_cases hmu : (m : Int) = u
                    · rw [if_pos hmu]; simp [hmu]
                    · rw [if_neg hmu]; simp [hmu]
                  go_wp2
                  go_roundg ((u' + 1).toNat)
                  case measure => omega
                  case rel => exact ⟨u', q', f - 1, rfl, rfl, rfl, hups.1, by omega, by omega, HQ', rfl⟩
                · have HQR : Hid (q = R) := by
                    unfold Hid
                    rw [← HA.out]
                    by_cases hq : q = true
                    · rw [hq]; rfl
                    · have hq' : q = false := by simpa using hq
                      have : a < 0 := by
                        rcases Int.lt_or_le a 0 with h | h
                        · exact h
                        · exact absurd ⟨h, hq'⟩ hgo
                      rw [hq']
                      cases f with
                      | zero => rfl
                      | succ f => rw [ancF, if_pos this]; rfl
                  have hex : a < 0 ∨ (0 ≤ a ∧ q = true) := by
                    rcases Int.lt_or_le a 0 with h | h
                    · exact .inl h
                    · refine .inr ⟨h, ?_⟩
                      cases q with
                      | true => rfl
                      | false => exact absurd ⟨h, rfl⟩ hgo
                  clear hgo HA
                  have hex3 : (a < 0 ∧ q = false) ∨ (a < 0 ∧ q = true) ∨ (0 ≤ a ∧ q = true) := by
                    rcases hex with h | h
                    · cases q with
                      | false => exact .inl ⟨h, rfl⟩
                      | true => exact .inr (.inl ⟨h, rfl⟩)
                    · exact .inr (.inr h)
                  clear hex
                  rcases hex3 with ⟨ha, rfl⟩ | ⟨ha, rfl⟩ | ⟨ha, rfl⟩
                  · go_wp2
                    go_meet
                    case rel => exact ⟨by rw [HQR.out], ⟨_, rfl⟩, rfl, rfl⟩
                  · go_wp2
                    go_meet
                    case rel => exact ⟨by rw [HQR.out], ⟨_, rfl⟩, rfl, rfl⟩
                  · go_wp2
                    go_meet
                    case rel => exact ⟨by rw [HQR.out], ⟨_, rfl⟩, rfl, rfl⟩
            case rest =>
              obtain ⟨rfl, ⟨aa, rfl⟩, rfl, rfl⟩ := hcut
              obtain ⟨DP, hDP⟩ : ∃ DP, DP = dpF l (k + 1) k := ⟨_, rfl⟩
              have hDPl : DP ≤ k + 1 := by rw [hDP]; exact dpF_le _ _ _
              have HDP := hideT' hDP
              clear hDP
              obtain ⟨pn, hpn⟩ : ∃ pn, pn = (partsTo l k l.length).length := ⟨_, rfl⟩
              have hpnl : pn ≤ 150 := by rw [hpn]; have := partsTo_le l k l.length; have := HNN.out; omega
              have HPC : Hid (∀ w3, NdIn w3 (.slice (some ⟨b, 0, none⟩) n cap) l → Calls Try.prog 97 #[.slice (some ⟨b, 0, none⟩) n cap, .int .i64 (k : Int)] w3 fun e w' => (∃ o c, e = .returned (.slice o pn c)) ∧ Below w3.heap.size w3 w') := by
                unfold Hid; intro w3 h3
                refine (lcParts_any l k _ w3 h3 (by have := HNN.out; omega) (by have := HNN.out; omega)).mono ?_
                rintro e w' ⟨⟨uv, rfl, hown⟩, hB⟩
                obtain ⟨o', c', rfl⟩ := own_formT hown
                exact ⟨⟨o', c', by rw [natsI_len, ← hpn]⟩, hB⟩
              have HEN2 : Hid (nodeOk l k = ((decide (kd = 1) || (decide (kd = 2) || decide (kd = 3))) && endB R DP pn kd nm)) := by
                unfold Hid; rw [HEND.out, ← HRR.out, ← HDP.out]; unfold nodeEnd endB; rw [← HND.out, ← hpn]
              clear hpn
              have HVW : Hid (NdIn w2 (.slice (some ⟨b, 0, none⟩) n cap) l) := by unfold Hid; have := HV.out.below HW2.out; rw [HNN.out]; exact this
              go_wp2_with fail
              go_loopg [7, 8] (k + 1) (fun g dv at_ wx => ∃ (a : Int) (dd f : Nat), g = (a + 1).toNat ∧ dv = .int .i64 (dd : Int) ∧ at_ = .int .i64 a ∧ -1 ≤ a ∧ a ≤ (k : Int) ∧ a < f ∧ Hid (dd + dpF l f a = DP) ∧ dd ≤ DP ∧ w2 = wx)
              case atStart => exact ⟨(k : Int), 0, k + 1, by omega, rfl, by go_num, by omega, by omega, by omega, by unfold Hid; rw [HDP.out]; omega, by omega, rfl⟩
              case round =>
                obtain ⟨a, dd, f, hga, rfl, rfl, ha1, ha2, haf, HA, hdd, rfl⟩ := hrel
                by_cases ha0 : 0 ≤ a
                · obtain ⟨m, rfl⟩ : ∃ m : Nat, a = (m : Int) := ⟨a.toNat, by omega⟩
                  obtain ⟨nd, hnd⟩ : ∃ nd, nd = ndAt l m := ⟨_, rfl⟩
                  obtain ⟨b', e', hb', c0, c1, c2⟩ := (HV.out.below HW2.out).cells (by have := HNN.out; omega) hnd
                  cases e'
                  have hups := HUPS.out m (by omega)
                  have HUM : Hid (upN l m = nd.u) := by unfold Hid upN; rw [← hnd]
                  rw [HUM.out] at hups
                  clear hnd hb' c0 c1
                  obtain ⟨kd', nm', u'⟩ := nd
                  simp only at c2 HUM hups
                  have hst : dd + 1 + dpF l (f - 1) u' = DP := by
                    rw [← HA.out]
                    obtain ⟨f', rfl⟩ : ∃ f', f = f' + 1 := ⟨f - 1, by omega⟩
                    rw [dpF, if_neg (by omega), Int.toNat_natCast, HUM.out, Nat.add_sub_cancel]
                    omega
                  have HST := hideT' hst
                  have hdd1 : dd + 1 ≤ DP := by omega
                  clear hst
                  go_wp2
                  go_roundg ((u' + 1).toNat)
                  case measure => omega
                  case rel => exact ⟨u', dd + 1, f - 1, rfl, by go_num, rfl, hups.1, by omega, by omega, HST, hdd1, rfl⟩
                · have hdp : dd = DP := by
                    rw [← HA.out]
                    have : dpF l f a = 0 := by
                      cases f with
                      | zero => rfl
                      | succ f => rw [dpF, if_pos (by omega)]
                    omega
                  subst hdp
                  clear HA
                  by_cases hkd : kd = 1 ∨ kd = 2 ∨ kd = 3
                  · have HE4 : Hid (nodeOk l k = endB R dd pn kd nm) := by
                      unfold Hid; rw [HEN2.out]
                      rcases hkd with rfl | rfl | rfl <;> simp
                    cases R with
                    | false =>
                      have HF : Hid (r = false) := HBAD.out (by rw [HE4.out]; exact endB_R)
                      rcases hkd with rfl | rfl | rfl
                      all_goals (
                        go_wp2
                        go_ret
                        exact ⟨by rw [HF.out]; rfl, HW2.out⟩)
                    | true =>
                      by_cases hd40 : dd ≤ 40
                      · have hpc : pn = wantN kd ∨ ¬ pn = wantN kd := by omega
                        rcases hkd with rfl | rfl | rfl
                        all_goals (
                          go_wp2_with fail
                          refine (HPC.out _ HVW.out).mono ?_
                          rintro e w5 ⟨⟨o5, c5, rfl⟩, hB5⟩
                          have HB6 : Hid (Below w1.heap.size w1 w5) := HW2.out.trans (hB5.mono HW2.out.size)
                          have f0 := (hB5.cell (p := ⟨tb, 0, none⟩) HTB.out).trans d0
                          have f1 := (hB5.cell (p := ⟨tb, 1, none⟩) HTB.out).trans d1
                          clear hB5 d0 d1 d2
                          rcases hpc with hpc | hpc
                          · have HPW := hideT' hpc
                            simp only [wantN, Int.reduceEq, if_true, if_false] at hpc
                            subst hpc
                            by_cases hnm : 0 ≤ nm ∧ nm ≤ 99
                            · obtain ⟨hn1, hn2⟩ := hnm
                              have hb1 : decide (0 ≤ nm) = true := decide_eq_true hn1
                              have hb2 : decide (nm ≤ 99) = true := decide_eq_true hn2
                              go_wp2_with fail
                              refine (l1In_any nm 0 99 _).mono ?_
                              rintro e w6 ⟨rfl, hw6⟩
                              subst hw6
                              rw [hb1, hb2]
                              clear hb1 hb2
                              by_cases hn0 : nm = 0
                              · have HK : Hid (nodeOk l k = true) := by unfold Hid; rw [HE4.out]; exact endB_ok hd40 HPW.out hn1 hn2 (.inr hn0)
                                go_wp2
                                go_roundg (n - (k + 1))
                                case measure => omega
                                case rel => exact ⟨k + 1, rfl, by omega, by go_num, fun j hj => if e : j = k then by rw [e]; exact HK.out else HOK.out j (by omega), HB6.out⟩
                              · first
                                | (have HF : Hid (r = false) := HBAD.out (by rw [HE4.out]; exact endB_n0 (by decide) hn0)
                                   have hnb : (nm != 0) = true := by simpa using hn0
                                   go_wp2
                                   go_ret
                                   exact ⟨by rw [HF.out]; rfl, HB6.out⟩)
                                | (have HK : Hid (nodeOk l k = true) := by unfold Hid; rw [HE4.out]; exact endB_ok hd40 HPW.out hn1 hn2 (.inl rfl)
                                   go_wp2
                                   go_roundg (n - (k + 1))
                                   case measure => omega
                                   case rel => exact ⟨k + 1, rfl, by omega, by go_num, fun j hj => if e : j = k then by rw [e]; exact HK.out else HOK.out j (by omega), HB6.out⟩)
                            · have HF : Hid (r = false) := HBAD.out (by rw [HE4.out]; exact endB_nm hnm)
                              have hbb : (decide (0 ≤ nm) && decide (nm ≤ 99)) = false := by simpa using hnm
                              go_wp2_with fail
                              refine (l1In_any nm 0 99 _).mono ?_
                              rintro e w6 ⟨rfl, hw6⟩
                              subst hw6
                              rw [hbb]
                              clear hbb
                              go_wp2
                              go_ret
                              exact ⟨by rw [HF.out]; rfl, HB6.out⟩
                          · have HF : Hid (r = false) := HBAD.out (by rw [HE4.out]; exact endB_pn hpc)
                            simp only [wantN, Int.reduceEq, if_true, if_false] at hpc
                            have hpi : ∀ z : Nat, ¬ pn = z → ¬ (pn : Int) = (z : Int) := fun z h => by omega
                            have hpi2 := hpi _ hpc
                            clear hpi
                            simp only [Int.cast_ofNat_Int] at hpi2
                            go_wp2
                            go_ret
                            exact ⟨by rw [HF.out]; rfl, HB6.out⟩)
                      · have HF : Hid (r = false) := HBAD.out (by rw [HE4.out]; exact endB_dd hd40)
                        rcases hkd with rfl | rfl | rfl
                        all_goals (
                          go_wp2
                          go_ret
                          exact ⟨by rw [HF.out]; rfl, HW2.out⟩)
                  · have HF : Hid (r = false) := HBAD.out (by rw [HEN2.out]; have h1 : decide (kd = 1) = false := decide_eq_false (fun h => hkd (.inl h)); have h2 : decide (kd = 2) = false := decide_eq_false (fun h => hkd (.inr (.inl h))); have h3 : decide (kd = 3) = false := decide_eq_false (fun h => hkd (.inr (.inr h))); rw [h1, h2, h3]; rfl)
                    have hk1 : ¬ kd = 1 := fun h => hkd (.inl h)
                    have hk2 : ¬ kd = 2 := fun h => hkd (.inr (.inl h))
                    have hk3 : ¬ kd = 3 := fun h => hkd (.inr (.inr h))
                    clear hkd
                    go_wp2
                    go_ret
                    exact ⟨by rw [HF.out]; rfl, HW2.out⟩
          · have HF : Hid (r = false) := HBAD.out (by
              rw [nodeOk_eq, HUP.out]
              have : (decide (-1 ≤ u) && decide (u ≤ (k : Int) - 1)) = false := by simpa using hin
              rw [this]; simp)
            have hbb : (decide (-1 ≤ u) && decide (u ≤ (k : Int) - 1)) = false := by simpa using hin
            go_wp2_with fail
            refine (l1In_any u (-1) ((k : Int) - 1) _).mono ?_
            rintro e w2 ⟨rfl, hw2⟩
            rw [hbb]
            have HW2 : Hid (Below w1.heap.size w1 w2) := by unfold Hid; rw [hw2]; exact HW.out.alloc hsz _
            clear hbb hw2
            go_wp2
            go_ret
            exact ⟨by rw [HF.out]; rfl, HW2.out⟩
        · have HF : Hid (r = false) := HBAD.out (by
            rw [nodeOk_eq, HUP.out, ← HQ0.out, ← HQ1.out]
            have : (q0 == q1) = false := by simpa using hqq
            rw [this]; rfl)
          have HW2 : Hid (Below w1.heap.size w1 (wr.alloc (.cells #[.int .i64 kd, .int .i64 nm, .int .i64 u] 69))) := HW.out.alloc hsz _
          cases q0 <;> cases q1
          · exact absurd rfl hqq
          · go_wp2
            go_ret
            exact ⟨by rw [HF.out]; rfl, HW2.out⟩
          · go_wp2
            go_ret
            exact ⟨by rw [HF.out]; rfl, HW2.out⟩
          · exact absurd rfl hqq
      · have HT : Hid (r = true) := by
          unfold Hid; rw [HR.out]
          exact goodS_all HL.out (fun j hj => HOK.out j (by have := HNN.out; omega))
        go_wp2
        go_ret
        exact ⟨by rw [HT.out]; rfl, hW⟩
  · have HF : Hid (r = false) := by
      unfold Hid; rw [HR.out]
      refine goodS_short ?_
      rw [← hn]; simpa using hlen
    have hbb : (decide ((1 : Int) ≤ (n : Int)) && decide ((n : Int) ≤ (150 : Int))) = false := by
      rw [Bool.and_eq_false_iff, decide_eq_false_iff_not, decide_eq_false_iff_not]; omega
    clear hn
    go_enter Try.func52, Try.ntmps52
    go_wp2_with fail
    refine (l1In_any (n : Int) 1 150 _).mono ?_
    rintro e w1 ⟨rfl, rfl⟩
    rw [hbb]
    clear hbb
    go_wp2
    go_ret
    exact ⟨by rw [HF.out]; rfl, Below.refl _ _⟩
end Go.Proofs.Ytbkdlkpiaekblaa

/-
  What redexesIn of the program answers.
-/
namespace Go.Proofs.Ytbkdlkpiaekblaa
open Go.RowKit Go.Shelf BL
set_option linter.unusedVariables false
attribute [local go_sem] Oper.semAt_some

/-- How a round of redexesIn begins. -/
def redAct (w : World) (b sb : Nat) (x : Spot × Nat) : Act := { tmps := #[.pointer (some ⟨b, 0, none⟩), undef, .slice none 0 0, .pointer (some ⟨w.heap.size, 0, none⟩), .pointer (some ⟨sb, 0, none⟩), .pointer (some ⟨x.2, 0, none⟩), .pointer (some ⟨b, 0, none⟩), .func (.func 133) #[] #[.pointer (some ⟨w.heap.size + 1, 0, none⟩)], .agg #[.int .i64 (x.1.at_ : Int), .int .i64 x.1.up, .int .i64 (x.1.lam : Int)], .pointer (some ⟨x.2, 0, none⟩), undef, undef, undef, undef, undef, undef, undef, undef], defers := [] }
set_option maxRecDepth 100000 in
set_option maxHeartbeats 8000000 in
theorem redexesIn_any (t : Lm) (b : Nat) (P : Nat → Prop) (w : World) (hT : TrIn w P t b) (hs : t.sz ≤ 1000000) :
    Calls Try.prog 70 #[.pointer (some ⟨b, 0, none⟩)] w fun e w' => (∃ u, e = .returned u ∧ OwnR w' w.heap.size u 3 intL 1 (natsI t.reds)) ∧ Below w.heap.size w w' := by
  refine (callsIn_wide (n := 4)).1 ?_
  have HT := hideT' hT
  clear hT
  refine callsIn_of_wp_marks Try.func70 rfl trivial ?_ rfl
  simp only [Try.ntmps70, List.size_toArray, List.length_cons, List.length_nil, Nat.reduceAdd, Nat.reduceSub, Array.replicate_succ, Array.replicate_zero, List.push_toArray, List.append_toArray, List.nil_append, List.cons_append]
  gi_wp2
  refine ⟨trivial, ?_⟩
  gi_at_call 99
  refine (callsIn_wide.2 (walk_any b _)).mono ?_
  rintro e w3 ⟨rfl, hw3⟩
  have hs3 : w3.heap.size = w.heap.size + 2 := by rw [hw3]; simp
  have hB3 : Below w.heap.size w w3 := by rw [hw3]; exact ((Below.refl _ _).alloc (Nat.le_refl _) _).alloc (by simp) _
  have hI0 : RedI w [] (fun z => z = w.heap.size) w3 := by
    refine ⟨.slice none 0 0, fun z => ?_, ?_, World.ownsRow_nil _ _ _ _, hB3⟩
    · simp [Value.ownBlock]
    · rw [hw3]; exact RowAt.old (RowAt.new _ _ _) _
  have hcx : w3.cell? ⟨w.heap.size + 1, 0, none⟩ = some (.pointer (some ⟨b, 0, none⟩)) := by
    have hr : RowAt w3 (w.heap.size + 1) 72 #[.pointer (some ⟨b, 0, none⟩)] := by
      rw [hw3]
      have := RowAt.new (w.alloc (.cells #[.slice none 0 0] 24)) 72 #[.pointer (some ⟨b, 0, none⟩)]
      rwa [World.size_alloc] at this
    rw [cell_of_row _ _ _ _ _ _ hr]; rfl
  have HI0 := hideT' hI0
  have HB3 := hideT' hB3
  have HCX := hideT' hcx
  clear hw3 hI0 hB3 hcx
  simp only [World.size_alloc]
  gi_wp2
  refine range_own (gf := 133) (lb := #[.pointer (some ⟨w.heap.size + 1, 0, none⟩)]) (by rfl) (enters_of Try.func133 (by kernel_rfl) rfl) encS (fun x => rfl) _ _ _ (walk_seq (w.heap.size + 1) t b hs)
    (fun pre x V V' W hVV h => ⟨h.1, TrIn.mono (fun z hz _ hv => hz (hVV z hv)) h.2⟩)
    (RedI w) (fun s V A h => h.lt) (fun s V A B row h hg hr => h.step hg (fun r e => ⟨(hr r e).1, by have := (hr r e).2; omega⟩)) (fun z => z = w.heap.size) HI0.out ?need
    (fun pre x V c W => ∃ sb, c = redAct w b sb x ∧ pre.length < t.sz ∧ (x.1.at_ < t.sz) ∧ RedI w pre V W ∧ RowAt W sb 133 #[.int .i64 (x.1.at_ : Int), .int .i64 x.1.up, .int .i64 (x.1.lam : Int)] ∧ ¬ V sb ∧ TrIn W (fun z => ¬ V z) x.1.t x.2) ?ax ?assign ?body ?done
  case need =>
    intro B V hg hV
    refine ⟨TrIn.keep (w := w) (P := P) (by have := hg.size; omega) (fun x _ hx => ?_) (fun x _ hx hv => ?_) HT.out, ?_⟩
    · rw [hg.block x (by omega) (by simp)]; exact HB3.out.block x hx
    · rcases hV x hv with h | h <;> omega
    · rw [World.cell?_of_block (w := w3) (a := ⟨w.heap.size + 1, 0, none⟩) (hg.block _ (by simp; omega) (by simp))]; exact HCX.out
  case ax =>
    rintro s x V c A B row ⟨sb, h1, hl, ha, h2, h3, h4, h5⟩ hg hr
    exact ⟨sb, h1, hl, ha, h2.step hg (fun r e => ⟨(hr r e).1.1, by have := (hr r e).1.2; omega⟩), TrIn.turn.row_same h3 hg (fun r e => (hr r e).2), h4, TrIn.turn hg (fun r e => (hr r e).2) h5⟩
  case assign =>
    intro l pre x V W K hNx hI hK
    have HI := hideT' hI
    have HK := hideT' hK
    have HNX := hideT' hNx
    unfold encS
    clear hI hK hNx
    gi_wp2
    have hal : Below W.heap.size W (W.alloc (.cells #[.int .i64 (x.1.at_ : Int), .int .i64 x.1.up, .int .i64 (x.1.lam : Int)] 133)) := (Below.refl _ _).alloc (Nat.le_refl _) _
    obtain ⟨⟨post, hpo⟩, hTx⟩ := HNX.out
    have hlen := congrArg List.length hpo
    rw [Lm.walk_len, List.length_append, List.length_map, List.length_cons] at hlen
    refine HK.out _ _ V ⟨W.heap.size, rfl, by omega, ?_, HI.out.step (row := none) ⟨hal.os, hal.tape, hal.output, hal.size, fun k hk _ => hal.block k hk⟩ (fun r e => by cases e), RowAt.new _ _ _, fun h => by have := HI.out.lt _ h; omega, TrIn.below hal hTx⟩ (MoreB.refl _ _) (KeepsB.below hal)
    have := (Lm.walk_sub t 0 (-1) 0 x.1 (by rw [hpo]; simp)).2.2.2.1
    omega
  case body =>
    rintro l pre x V c W ⟨sb, rfl, hpl, hat, hI, hR, hVs, hTx⟩
    unfold redAct
    obtain ⟨v, hV, hRv, hO, hB⟩ := hI
    obtain ⟨ov, cap, hvv⟩ := own_formT hO
    subst hvv
    have hls := redsOf_len pre
    have hra := redsOf_app pre x
    have hca : W.cell? ⟨sb, 0, none⟩ = some (.int .i64 (x.1.at_ : Int)) := by rw [cell_of_row _ _ _ _ _ _ hR]; rfl
    have hcv : W.cell? ⟨w.heap.size, 0, none⟩ = some (.slice ov (redsOf pre).length cap) := by rw [cell_of_row _ _ _ _ _ _ hRv]; rfl
    have HC := hideT' (isRedex_any x.1.t x.2 _ W hTx)
    obtain ⟨q, hq⟩ : ∃ q, q = x.1.t.isRed := ⟨_, rfl⟩
    rw [← hq] at HC hra
    have HV := hideT' hV
    have HRV := hideT' hRv
    have HO := hideT' hO
    have HB := hideT' hB
    have hsb := hR.lt
    have hwz := hRv.lt
    clear hV hRv hO hB hR hTx hq
    cases q with
    | false =>
      have HRA : Hid (redsOf (pre ++ [x]) = redsOf pre) := by unfold Hid; rw [hra]; simp
      clear hra
      gi_wp2
      refine ⟨trivial, ?_⟩
      gi_at_call 112
      refine (CallsIn.inRound l (callsIn_wide.2 HC.out)).mono ?_
      rintro e w4 ⟨rfl, rfl⟩
      gi_wp2
      exact ⟨V, ⟨_, HV.out, HRV.out, by rw [HRA.out]; exact HO.out, HB.out⟩, MoreB.refl _ _, KeepsB.refl _ _⟩
    | true =>
      have HRA : Hid (redsOf (pre ++ [x]) = redsOf pre ++ [(x.1.at_ : Int)]) := by unfold Hid; rw [hra]; simp
      clear hra
      obtain ⟨i0, hi, hz0, hz1, hz2⟩ := info_parts info_int
      gi_wp2
      refine ⟨trivial, ?_⟩
      gi_at_call 112
      refine (CallsIn.inRound l (callsIn_wide.2 HC.out)).mono ?_
      rintro e w4 ⟨rfl, rfl⟩
      have hwl : w.heap.size + 1 ≤ w4.heap.size := hwz
      gi_wp2_with (gi_at_builtin; refine wpListIn_append_own_at _ rfl _ _ 24 rfl (w.heap.size + 1) 3 i0 (.int .i64 0) 1 8 Try.underlying24 hi hz0 hz1 hz2 rfl (by decide) (.slice ov (redsOf pre).length cap) _ _ rfl (HO.out.alloc _) ⟨w4.heap.size, 0, none⟩ 1 1 [.int .i64 (x.1.at_ : Int)] rfl rfl (cell_one_new _ _ _) (oneT_cell _) (by unfold maxLen; omega) (by omega) (by simp; omega) ?_; intro v5 w5 hown5 hg5 _ hat5; obtain ⟨g5, cap5, rfl⟩ := ownsRow_succ hown5; have hbx5 := boxR_append (B := w.heap.size) (t := 24) HRV.out (by decide) HO.out hown5 hg5; have HBX5 := hideT' hbx5; have f5 : w5.cell? ⟨w.heap.size, 0, none⟩ = some (.slice ov (redsOf pre).length cap) := hbx5.1.cell; have fz5 : w5.frozen? ⟨w.heap.size, 0, none⟩ = false := hbx5.1.frozen; have HG5 := hideT' hg5; have HAT5 := hideT' hat5; clear hbx5 hg5 hat5)
      obtain ⟨_, q1, q2, q3, q4, q5, q6, q7, q8⟩ := HBX5.out
      have hob : ∀ z, z < w4.heap.size → ¬ V z → (w5.setCell ⟨w.heap.size, 0, none⟩ (.slice (some ⟨g5, 0, none⟩) ((redsOf pre).length + 1) cap5)).heap[z]? = w4.heap[z]? := fun z hz hv => by
        have h1 : z ≠ w.heap.size := fun e => hv ((HV.out z).2 (.inl e))
        rw [heap_setCell_other w5 ⟨w.heap.size, 0, none⟩ z _ (fun e => h1 e), HG5.out.block z (by simp; omega) (fun e => hv ((HV.out z).2 (.inr e.symm))), Below.heap_alloc _ _ _ hz]
      refine ⟨fun z => z = w.heap.size ∨ (Value.slice (some ⟨g5, 0, none⟩) ((redsOf pre).length + 1) cap5).ownBlock = some z, ⟨_, fun z => Iff.rfl, q1, ?_, ?_⟩, ?_, ⟨q4, fun z hz hv => hob z hz hv⟩⟩
      · unfold OwnR
        rw [HRA.out, List.length_append, List.length_singleton, List.flatMap_append]; exact q2
      · refine HB.out.trans ⟨q6, q7, q8, q4, fun j hj => ?_⟩
        exact hob j (by omega) (fun h => by
          rcases (HV.out j).1 h with e | e
          · omega
          · have := (HO.out.lt j e).1; omega)
      · intro z hz
        rcases hz with rfl | hz
        · exact .inl ((HV.out _).2 (.inl rfl))
        · rcases HAT5.out with h | h
          · exact .inl ((HV.out z).2 (.inr (by rw [← h]; exact hz)))
          · rw [h] at hz
            injection hz with hz
            rw [World.size_alloc] at hz
            exact .inr (by omega)
  case done =>
    rintro D ys V W hD hS ⟨v, hV, hRv, hO, hB⟩ hVD hK
    obtain ⟨ov, cap, hvv⟩ := own_formT hO
    subst hvv
    have hcv : W.cell? ⟨w.heap.size, 0, none⟩ = some (.slice ov (redsOf ys).length cap) := by rw [cell_of_row _ _ _ _ _ _ hRv]; rfl
    have HOW : Hid (W.ownsRow w.heap.size 3 1 (.slice ov (redsOf ys).length cap) (natsI t.reds).length ((natsI t.reds).flatMap intL)) := by
      unfold Hid
      rw [← redsOf_all hS]
      exact ⟨hO.1, hO.2.imp id fun ⟨g, cap, cur, h1, h2, h3⟩ => ⟨g, cap, cur, h1, by omega, h3⟩⟩
    have HW := hideT' hB
    have HKD := hideT' hK
    clear hO hB hK hRv
    gi_wp2
    refine leave_marks (v := .slice ov (redsOf ys).length cap) HKD.out (by simp [results, Try.results70, go_sem]) ⟨⟨_, rfl, ?_⟩, below_put HW.out (by omega) HW.out.size⟩
    exact ⟨HOW.out.1, HOW.out.2.imp id fun ⟨g, cap, cur, h1, h2, h3, h4⟩ => ⟨g, cap, cur, h1, h2, row_put h3 HKD.out rfl, h4⟩⟩
end Go.Proofs.Ytbkdlkpiaekblaa

/-
  What lcRedexes and RedexesIn of the model answer; RedexesIn of the program.
-/
namespace Go.Proofs.Ytbkdlkpiaekblaa
open Go.RowKit BL
set_option linter.unusedVariables false

theorem Seg.spot {l : List Nd} : ∀ {t : Lm} {a : Nat} {up : Int}, Seg l t a up → ∀ m, ∀ x ∈ t.walk a up m, ndAt l x.at_ = x.nd ∧ x.at_ + x.t.sz ≤ a + t.sz
  | .var n, a, up, h, m, x, hx => by
    simp only [Lm.walk, List.mem_singleton] at hx
    subst hx
    exact ⟨h.nd, Nat.le_refl _⟩
  | .lam t, a, up, h, m, x, hx => by
    rw [Lm.walk] at hx
    rcases List.mem_cons.1 hx with rfl | hx
    · exact ⟨h.nd, Nat.le_refl _⟩
    · have := Seg.spot h.2 _ x hx
      exact ⟨this.1, by have := this.2; simp only [Lm.sz]; omega⟩
  | .app s t, a, up, h, m, x, hx => by
    rw [Lm.walk] at hx
    rcases List.mem_cons.1 hx with rfl | hx
    · exact ⟨h.nd, Nat.le_refl _⟩
    · rcases List.mem_append.1 hx with hx | hx
      · have := Seg.spot h.2.1 _ x hx
        exact ⟨this.1, by have := this.2; simp only [Lm.sz]; omega⟩
      · have := Seg.spot h.2.2 _ x hx
        exact ⟨this.1, by have := this.2; simp only [Lm.sz]; omega⟩
/-- An application has a node behind it. -/
theorem flat_next (t : Lm) (k : Nat) (hk : k < t.sz) (h3 : (ndAt (t.flat 0 (-1)) k).k = 3) : k + 1 < t.sz := by
  have h1 : k ∈ (t.walk 0 (-1) 0).map Spot.at_ := by rw [Lm.walk_ats]; simp [List.mem_range']; omega
  obtain ⟨x, hx, rfl⟩ := List.mem_map.1 h1
  have h2 := Seg.spot (Seg.whole t) 0 x hx
  rw [h2.1] at h3
  simp only [Spot.nd] at h3
  cases hx' : x.t with
  | var n => rw [hx'] at h3; simp [Lm.kd] at h3
  | lam s => rw [hx'] at h3; simp [Lm.kd] at h3
  | app p q =>
    have h4 := h2.2
    rw [hx'] at h4
    simp only [Lm.sz] at h4
    have := p.sz_pos
    omega
def redsTo (l : List Nd) (k : Nat) : List Nat := (List.range k).filter (redN l)
theorem redsTo_succ (l : List Nd) (k : Nat) : redsTo l (k + 1) = redsTo l k ++ (if redN l k then [k] else []) := by
  unfold redsTo
  rw [List.range_succ, List.filter_append]
  congr 1
  cases h : redN l k <;> simp [List.filter, h]
theorem redsTo_le (l : List Nd) (k : Nat) : (redsTo l k).length ≤ k := by
  unfold redsTo
  exact Nat.le_trans (List.length_filter_le _ _) (by simp)

set_option maxHeartbeats 4000000 in
set_option maxRecDepth 100000 in
theorem lcRedexes_any (t : Lm) (v : Value) (w : World) (hv : NdIn w v (t.flat 0 (-1))) (hs : t.sz ≤ 1000000) :
    Calls Try.prog 67 #[v] w fun e w' => (∃ u, e = .returned u ∧ OwnR w' w.heap.size u 3 intL 1 (natsI t.reds)) ∧ Below w.heap.size w w' := by
  have HV := hideT' hv
  obtain ⟨o, cap, rfl⟩ := hv.len
  clear hv
  obtain ⟨i0, hi, hz0, hz1, hz2⟩ := info_parts info_int
  have hz := zero_term.1
  obtain ⟨l, hl⟩ : ∃ l, l = t.flat 0 (-1) := ⟨_, rfl⟩
  rw [← hl] at HV ⊢
  obtain ⟨n, hn⟩ : ∃ n, n = l.length := ⟨_, rfl⟩
  have HNS : Hid (n = t.sz) := by unfold Hid; rw [hn, hl, Lm.flat_sz]
  have HNX : Hid (∀ k, k < n → (ndAt l k).k = 3 → k + 1 < n) := fun k hk h3 => by rw [HNS.out]; exact flat_next t k (by rw [← HNS.out]; exact hk) (by rw [← hl]; exact h3)
  have HRE : Hid (redsTo l n = t.reds) := by
    unfold Hid
    rw [← redsN_flat, ← hl, hn]; rfl
  have HNN := hideT' hn
  have hn1 : n ≤ 1000000 := by rw [HNS.out]; exact hs
  rw [← hn]
  clear hn hl hs
  go_enter Try.func67, Try.ntmps67
  go_wp2_with fail
  go_loopg [3, 8] n (fun g x i wr => ∃ k : Nat, g = n - k ∧ k ≤ n ∧ i = .int .i64 (k : Int) ∧ OwnR wr w.heap.size x 3 intL 1 (natsI (redsTo l k)) ∧ Below w.heap.size w wr)
  case atStart => exact ⟨0, rfl, by omega, by go_num, World.ownsRow_nil _ _ _ _, Below.refl _ _⟩
  case round =>
    obtain ⟨k, hg, hk, rfl, hO, hW⟩ := hrel
    obtain ⟨o2, cap2, hv2⟩ := own_formT hO
    have HO := hideT' hO
    subst hv2
    by_cases hlt : (k : Int) < (n : Int)
    · obtain ⟨nd, hnd⟩ : ∃ nd, nd = ndAt l k := ⟨_, rfl⟩
      obtain ⟨b, rfl, hb, c0, c1, c2⟩ := (HV.out.below hW).cells (by have := HNN.out; omega) hnd
      have hb' : b < wr.heap.size := hb
      have hsucc := redsTo_succ l k
      have hpl := redsTo_le l k
      rw [← natsI_len] at hpl
      have HW := hideT' hW
      have hsz := hW.size
      have HKD : Hid ((ndAt l k).k = nd.k) := by unfold Hid; rw [hnd]
      clear hb hnd hO hW
      obtain ⟨kd, nm, u⟩ := nd
      simp only at c0 c1 c2 HKD
      have hAl : Below w.heap.size w (wr.alloc (.cells #[.int .i64 kd, .int .i64 nm, .int .i64 u] 69)) := HW.out.alloc hsz _
      have HAL := hideT' hAl
      clear hAl
      by_cases h3 : kd = 3
      · subst h3
        have hk1 := HNX.out k (by omega) HKD.out
        obtain ⟨nd2, hnd2⟩ : ∃ nd2, nd2 = ndAt l (k + 1) := ⟨_, rfl⟩
        obtain ⟨b2, e2, _, d0, _, _⟩ := (HV.out.below HW.out).cells (by have := HNN.out; omega) hnd2
        cases e2
        have HRN : Hid (redN l k = decide (nd2.k = 2)) := by unfold Hid redN; rw [HKD.out, ← hnd2]; simp
        clear hnd2
        obtain ⟨kd2, nm2, u2⟩ := nd2
        simp only at d0 HRN
        have hcast : ((k + 1 : Nat) : Int) = (k : Int) + 1 := by omega
        have HCA := hideT' hcast
        clear hcast
        by_cases h2 : kd2 = 2
        · have HS : Hid (natsI (redsTo l (k + 1)) = natsI (redsTo l k) ++ [(k : Int)]) := by unfold Hid; rw [hsucc, HRN.out, decide_eq_true h2]; simp [natsI]
          clear hsucc
          go_wp2_with (at_builtin; refine wpList_append_own _ rfl _ _ 24 rfl w.heap.size 3 i0 (.int .i64 0) 1 8 Try.underlying24 hi hz0 hz1 hz2 rfl (by decide) _ _ _ rfl ((HO.out.alloc _).alloc _) ⟨wr.heap.size + 1, 0, none⟩ 1 1 [.int .i64 (k : Int)] rfl rfl (by have := cell_one_new (wr.alloc (.cells #[.int .i64 3, .int .i64 nm, .int .i64 u] 69)) (.int .i64 (k : Int)) 3; rw [World.size_alloc] at this; exact this) (oneT_cell _) (by unfold maxLen; omega) (by omega) (by simp; omega) ?_; intro v' w4 hown' hgrow _)
          have hgb : ∀ g, (Value.slice o2 (natsI (redsTo l k)).length cap2).ownBlock = some g → w.heap.size ≤ g := fun g e => (HO.out.lt g e).1
          go_roundg (n - (k + 1))
          case measure => omega
          case rel =>
            refine ⟨k + 1, rfl, by omega, by go_num, ?_, ?_⟩
            · rw [HS.out]
              unfold OwnR
              rw [List.length_append, List.flatMap_append]
              exact hown'
            · exact (HAL.out.alloc (by simp; omega) _).grown hgrow (by simp; omega) (fun k hk => hgb _ hk)
        · have HS : Hid (natsI (redsTo l (k + 1)) = natsI (redsTo l k)) := by unfold Hid; rw [hsucc, HRN.out, decide_eq_false h2]; simp
          clear hsucc
          go_wp2
          go_roundg (n - (k + 1))
          case measure => omega
          case rel => exact ⟨k + 1, rfl, by omega, by go_num, by rw [HS.out]; exact HO.out.alloc _, HAL.out⟩
      · have HS : Hid (natsI (redsTo l (k + 1)) = natsI (redsTo l k)) := by unfold Hid; rw [hsucc]; unfold redN; rw [HKD.out, decide_eq_false h3]; simp
        clear hsucc
        go_wp2
        go_roundg (n - (k + 1))
        case measure => omega
        case rel => exact ⟨k + 1, rfl, by omega, by go_num, by rw [HS.out]; exact HO.out.alloc _, HAL.out⟩
    · have hkn : k = n := by omega
      subst hkn
      clear hO
      go_wp2
      go_ret
      exact ⟨⟨_, rfl, by rw [← HRE.out]; exact HO.out⟩, hW⟩

/-- The answer of both RedexesIn. -/
def RedB (l : List Nd) : Bool := goodS l
def RedL (l : List Nd) : List Int := match readP' l with | none => [] | some t => natsI t.reds
def RedOut (w : World) (l : List Nd) (e : Ending) (w' : World) : Prop :=
  ∃ u, e = .returned (.tuple #[u, .bool (RedB l)]) ∧ OwnR w' w.heap.size u 3 intL 1 (RedL l)
theorem own_keep' {w w' : World} {B n s : Nat} {T : TypeId} {v : Value} {xs : List Value} {row : Option Nat} (h : w.ownsRow B T s v n xs) (hg : w.grownBy w' row) (hr : ∀ g, v.ownBlock = some g → some g ≠ row) : w'.ownsRow B T s v n xs :=
  own_keep h (fun g e => hg.block g (h.lt g e).2 (hr g e))
theorem readP'_good {l : List Nd} {t : Lm} (h : readP' l = some t) : l = t.flat 0 (-1) ∧ t.sz ≤ 150 := by
  have := (readP'_iff l t).1 h
  exact ⟨this.1, (Lm.good_sz this.2).1⟩
theorem RedL_len (l : List Nd) : (RedL l).length ≤ 1048576 := by
  unfold RedL
  split
  · simp
  · next t h =>
    have h1 := (readP'_good h).2
    rw [natsI_len]
    unfold Lm.reds
    rw [List.length_map]
    have h2 := List.length_filter_le (fun x : Spot => x.t.isRed) (t.walk 0 (-1) 0)
    rw [Lm.walk_len] at h2
    omega
end Go.Proofs.Ytbkdlkpiaekblaa

/-
  Rows of Comb that are answers: what the laws' own helpers over them say.
-/
namespace Go.Proofs.Ytbkdlkpiaekblaa
open Go.RowKit
set_option linter.unusedVariables false
/-- One that is marked. -/
def markComb (k : Int) : Int × Int × Int := (k, k + 1, k + 1 + 1)
theorem runX_comb {o : Oper} {a : Act} {w : World} (x : Operand) (ho : o.op = .load 94 x) (b i : Nat) (hx : a.eval x = .pointer (some ⟨b, i * 3, none⟩)) (d : Int × Int × Int) (hD : w.rangeAt b (i * 3) (combL d)) :
    (execOp a.eval o).run Try.prog w = .ok (.value (.agg (combL d).toArray)) w := by
  have h := run_loadAt_mid (P := Try.prog) w b (i * 3) 94 (combL d) _ hD Try.underlying94 rfl zero_comb.2
  unfold execOp
  simp only [ho, hx, Sem.run_bind, h, Result.andThen_ok]
  rfl
set_option maxHeartbeats 1000000 in
set_option maxRecDepth 100000 in
theorem eqCombS_in (v1 v2 : Value) (l : List (Int × Int × Int)) (w : World) (hl : l.length ≤ 1048576) (h1 : InR w v1 combL 3 l) (h2 : InR w v2 combL 3 l) :
    Calls Try.prog 39 #[v1, v2] w fun e w' => e = .returned (.bool true) ∧ Below w.heap.size w w' := by
  obtain ⟨o1, cap1, rfl, h1⟩ := h1
  obtain ⟨o2, cap2, rfl, h2⟩ := h2
  rcases Classical.em (l = []) with rfl | hne
  · clear h1 h2
    go_enter Try.func39, Try.ntmps39
    go_wp2_with fail
    go_loopg [5] 0 (fun g i wr => i = .int .i64 0 ∧ wr = w)
    case atStart => exact ⟨rfl, rfl⟩
    case round =>
      obtain ⟨rfl, rfl⟩ := hrel
      go_wp2
      go_ret
      exact ⟨rfl, Below.refl _ _⟩
  obtain ⟨b1, rfl, hb1, h1⟩ := h1 hne
  obtain ⟨b2, rfl, hb2, h2⟩ := h2 hne
  have H1 := hideT' h1
  have H2 := hideT' h2
  clear h1 h2 hne
  go_enter Try.func39, Try.ntmps39
  go_wp2_with fail
  go_loopg [5] l.length (fun g i wr => ∃ k : Nat, g = l.length - k ∧ k ≤ l.length ∧ i = .int .i64 (k : Int) ∧ Below w.heap.size w wr)
  case atStart => exact ⟨0, rfl, by omega, rfl, Below.refl _ _⟩
  case round =>
    obtain ⟨k, hg, hk, rfl, hW⟩ := hrel
    by_cases hlt : (k : Int) < (l.length : Int)
    · have hk' : k < l.length := by omega
      obtain ⟨d, hd⟩ : ∃ d, d = l.getD k default := ⟨_, rfl⟩
      have HDM := hideT' hd
      have h1 := H1.out
      have h2 := H2.out
      clear hd
      have hrg : ∀ w', Below w.heap.size w w' → w'.rangeAt b1 (k * 3) (combL d) ∧ w'.rangeAt b2 (k * 3) (combL d) := fun w' hB => by
        refine ⟨fun j u hu => ?_, fun j u hu => ?_⟩
        · rw [hB.cell (p := ⟨b1, k * 3 + j, none⟩) hb1]; rw [HDM.out] at hu; exact h1 k j u hk' hu
        · rw [hB.cell (p := ⟨b2, k * 3 + j, none⟩) hb2]; rw [HDM.out] at hu; exact h2 k j u hk' hu
      have HRG := hideT' hrg
      have hS := hrg wr.drew (Below.drew hW)
      clear h1 h2 hrg
      go_wp2_with fail
      refine held_begin (fun w' => w'.rangeAt b1 (k * 3) (combL d) ∧ w'.rangeAt b2 (k * 3) (combL d)) (by kernel_rfl) ?_
      refine held_val 0 (some 17) rfl rfl (by kernel_rfl) (by kernel_rfl) (by kernel_rfl) noPanic_put rfl (.slice (some ⟨b1, 0, none⟩) l.length cap1) (fun _ => rfl) hS ?_
      simp only [Act.put, List.setIfInBounds_toArray, List.set_cons_zero, List.set_cons_succ]
      refine held_val 1 (some 18) rfl rfl (by kernel_rfl) (by kernel_rfl) (by kernel_rfl) noPanic_put rfl (.int .i64 (k : Int)) (fun _ => rfl) hS ?_
      simp only [Act.put, List.setIfInBounds_toArray, List.set_cons_zero, List.set_cons_succ]
      refine held_val 2 (some 19) rfl rfl (by kernel_rfl) (by kernel_rfl) (by kernel_rfl) noPanic_put rfl (.pointer (some ⟨b1, k * 3, none⟩)) (fun _ => by go_simp) hS ?_
      simp only [Act.put, List.setIfInBounds_toArray, List.set_cons_zero, List.set_cons_succ]
      refine held_valS 3 (some 20) rfl rfl (by kernel_rfl) (by kernel_rfl) (by kernel_rfl) noPanic_put rfl (.agg (combL d).toArray) (fun _ hw' => runX_comb _ rfl b1 k rfl d hw'.1) hS ?_
      simp only [Act.put, List.setIfInBounds_toArray, List.set_cons_zero, List.set_cons_succ]
      refine held_val 4 (some 21) rfl rfl (by kernel_rfl) (by kernel_rfl) (by kernel_rfl) noPanic_put rfl (.slice (some ⟨b2, 0, none⟩) l.length cap2) (fun _ => rfl) hS ?_
      simp only [Act.put, List.setIfInBounds_toArray, List.set_cons_zero, List.set_cons_succ]
      refine held_val 5 (some 22) rfl rfl (by kernel_rfl) (by kernel_rfl) (by kernel_rfl) noPanic_put rfl (.int .i64 (k : Int)) (fun _ => rfl) hS ?_
      simp only [Act.put, List.setIfInBounds_toArray, List.set_cons_zero, List.set_cons_succ]
      refine held_val 6 (some 23) rfl rfl (by kernel_rfl) (by kernel_rfl) (by kernel_rfl) noPanic_put rfl (.pointer (some ⟨b2, k * 3, none⟩)) (fun _ => by go_simp) hS ?_
      simp only [Act.put, List.setIfInBounds_toArray, List.set_cons_zero, List.set_cons_succ]
      refine held_valS 7 (some 24) rfl rfl (by kernel_rfl) (by kernel_rfl) (by kernel_rfl) noPanic_put rfl (.agg (combL d).toArray) (fun _ hw' => runX_comb _ rfl b2 k rfl d hw'.2) hS ?_
      simp only [Act.put, List.setIfInBounds_toArray, List.set_cons_zero, List.set_cons_succ]
      refine held_call 8 (some 25) (by kernel_rfl) rfl rfl rfl 80 #[.agg (combL d).toArray, .agg (combL d).toArray] (by go_simp) _ (eqComb_any d wr.drew) ?_
      rintro e w2 ⟨rfl, hW2⟩
      have hW2 : Below wr.heap.size wr w2 := ⟨hW2.os, hW2.tape, hW2.output, hW2.size, hW2.block⟩
      have hW3 := hW.trans (hW2.mono hW.size)
      have hS2 := HRG.out w2 hW3
      refine ⟨_, rfl, hS2, ?_⟩
      simp only [Act.put, List.setIfInBounds_toArray, List.set_cons_zero, List.set_cons_succ]
      refine held_val 9 (some 26) rfl rfl (by kernel_rfl) (by kernel_rfl) (by kernel_rfl) noPanic_put rfl (.bool false) (fun _ => by go_simp) hS2 ?_
      simp only [Act.put, List.setIfInBounds_toArray, List.set_cons_zero, List.set_cons_succ]
      refine wpAnyH_done (by kernel_rfl) ?_ _
      refine NoPanic.normal ?_
      go_wp2
      go_roundg (l.length - (k + 1))
      case measure => omega
      case rel => exact ⟨k + 1, rfl, by omega, by go_num, hW3⟩
    · go_wp2
      go_ret
      exact ⟨rfl, hW⟩
set_option maxHeartbeats 2000000 in
set_option maxRecDepth 100000 in
theorem markCombS_own (v : Value) (n : Nat) (xs0 : List Value) (k : Int) (B : Nat) (w : World) (hk0 : 0 < k) (hk1 : k + 3 * (n : Int) ≤ 1099511627776) (h : w.ownsRow B 94 3 v n xs0) :
    Calls Try.prog 42 #[v, .int .i64 k] w fun e w' => e = .returned (.int .i64 (k + 3 * (n : Int))) ∧ OwnR w' B v 94 combL 3 (markL markComb 3 k n) ∧ w.grownBy w' v.ownBlock := by
  rcases h.2 with ⟨rfl, rfl⟩ | ⟨b, cap, cur, rfl, hB, _⟩
  · have hx : k + 3 * ((0 : Nat) : Int) = k := by simp
    rw [hx]
    clear hx hk1
    go_enter Try.func42, Try.ntmps42
    go_wp2_with fail
    go_loopg [1, 5] 0 (fun g x i wr => x = .int .i64 k ∧ i = .int .i64 0 ∧ wr = w)
    case atStart => exact ⟨rfl, rfl, rfl⟩
    case round =>
      obtain ⟨rfl, rfl, rfl⟩ := hrel
      go_wp2
      go_ret
      exact ⟨rfl, by simpa [OwnR, markL] using World.ownsRow_nil _ _ _ _, ⟨rfl, rfl, rfl, Nat.le_refl _, fun _ _ _ => rfl⟩⟩
  · obtain ⟨N, hN⟩ : ∃ N : Int, N = k + 3 * (n : Int) := ⟨_, rfl⟩
    have HN := hideT' hN
    have HB := hideT' hk1
    clear hN hk1
    go_enter Try.func42, Try.ntmps42
    go_wp2_with fail
    go_loopg [1, 5] n (fun g x i wr => ∃ (j : Nat) (y : Int) (xs : List Value), g = n - j ∧ j ≤ n ∧ i = .int .i64 (j : Int) ∧ x = .int .i64 y ∧ 0 < y ∧ y ≤ 1099511627776 ∧ Hid (y = k + 3 * (j : Int)) ∧ wr.ownsRow B 94 3 (.slice (some ⟨b, 0, none⟩) n cap) n xs ∧ Hid (Marked combL markComb 3 k j xs) ∧ w.grownBy wr (some b))
    case atStart => exact ⟨0, k, xs0, rfl, by omega, rfl, rfl, by omega, by have := HB.out; omega, by simp [Hid], h, (fun j hj => by omega : Marked combL markComb 3 k 0 xs0), ⟨rfl, rfl, rfl, Nat.le_refl _, fun _ _ _ => rfl⟩⟩
    case round =>
      clear h
      obtain ⟨j, x, xs, hg, hj, rfl, rfl, hx0, hx1, HX, hown, HM, hG⟩ := hrel
      by_cases hlt : (j : Int) < (n : Int)
      · have hj' : j < n := by omega
        have HJ : Hid (j * 3 + 3 ≤ n * 3) := by unfold Hid; omega
        have hx2 : x + 3 ≤ 1099511627776 := by have := HB.out; have := HX.out; omega
        go_wp2_with (first | (refine store_own rfl 3 _ _ rfl rfl b (j * 3) (.int .i64 (x)) rfl rfl size1_int rfl hown (by have := HJ.out; omega) ?_; intro w1 own1 hg1 hs1) | (refine store_own rfl 3 _ _ rfl rfl b (j * 3 + 1) (.int .i64 (x + 1)) rfl rfl size1_int rfl own1 (by have := HJ.out; omega) ?_; intro w2 own2 hg2 hs2) | (refine store_own rfl 3 _ _ rfl rfl b (j * 3 + 2) (.int .i64 (x + 1 + 1)) rfl rfl size1_int rfl own2 (by have := HJ.out; omega) ?_; intro w3 own3 hg3 hs3))
        go_roundg (n - (j + 1))
        case measure => omega
        case rel =>
          have hbb := HB.out
          refine ⟨j + 1, x + 3, _, rfl, by omega, congrArg (Value.int .i64) (by unfold wrap64; omega), congrArg (Value.int .i64) (by omega), by omega, hx2, by have := HX.out; unfold Hid; omega, own3, ?_, (grownX_trans (grownX_trans (grownX_trans hG hg1) hg2) hg3)⟩
          intro i hi q hq
          by_cases e : i = j
          · subst e
            have hxe : k + ((3 : Nat) : Int) * (i : Int) = x := by have := HX.out; omega
            rw [hxe]
            have hl1 := hown.1
            match q, hq with
            | 0, _ => simp [List.getElem?_set, combL, markComb]; omega
            | 1, _ => simp [List.getElem?_set, combL, markComb]; omega
            | 2, _ => simp [List.getElem?_set, combL, markComb]; omega
          · exact (((HM.out.set (j * 3) (.int .i64 (x)) (by omega)).set (j * 3 + 1) (.int .i64 (x + 1)) (by omega)).set (j * 3 + 2) (.int .i64 (x + 1 + 1)) (by omega)) i (by omega) q hq
      · have hjn : j = n := by omega
        subst hjn
        have hxs := HM.out.all combL_len hown.1
        rw [hxs] at hown
        have HO := hideT' hown
        clear hown hxs
        have HXN : Hid (x = N) := by unfold Hid; rw [HX.out, HN.out]
        go_wp2
        go_ret
        refine ⟨by rw [← HN.out, ← HXN.out]; rfl, ?_, hG⟩
        have := HO.out
        unfold OwnR
        rw [markL_len]
        exact this
set_option maxHeartbeats 2000000 in
set_option maxRecDepth 100000 in
theorem heldCombS_in (v : Value) (n : Nat) (k : Int) (w : World) (hk0 : 0 < k) (hk1 : k + 3 * (n : Int) ≤ 1099511627776) (h : InR w v combL 3 (markL markComb 3 k n)) :
    Calls Try.prog 43 #[v, .int .i64 k] w fun e w' => e = .returned (.int .i64 (k + 3 * (n : Int))) ∧ Below w.heap.size w w' := by
  obtain ⟨o, cap, rfl, h⟩ := h
  rw [markL_len]
  rcases Nat.eq_zero_or_pos n with rfl | hn
  · have hx : k + 3 * ((0 : Nat) : Int) = k := by simp
    rw [hx]
    clear hx hk1 h
    go_enter Try.func43, Try.ntmps43
    go_wp2_with fail
    go_loopg [1, 5] 0 (fun g x i wr => x = .int .i64 k ∧ i = .int .i64 0 ∧ wr = w)
    case atStart => exact ⟨rfl, rfl, rfl⟩
    case round =>
      obtain ⟨rfl, rfl, rfl⟩ := hrel
      go_wp2
      go_ret
      exact ⟨rfl, Below.refl _ _⟩
  obtain ⟨b, rfl, hb, h1⟩ := h (by intro e; have := congrArg List.length e; rw [markL_len] at this; simp at this; omega)
  obtain ⟨N, hN⟩ : ∃ N : Int, N = k + 3 * (n : Int) := ⟨_, rfl⟩
  have HN := hideT' hN
  have HB := hideT' hk1
  have H1 := hideT' h1
  clear hN hk1 h1 h
  go_enter Try.func43, Try.ntmps43
  go_wp2_with fail
  go_loopg [1, 5] n (fun g x i wr => ∃ (j : Nat) (y : Int), g = n - j ∧ j ≤ n ∧ i = .int .i64 (j : Int) ∧ x = .int .i64 y ∧ 0 < y ∧ y ≤ 1099511627776 ∧ Hid (y = k + 3 * (j : Int)) ∧ Below w.heap.size w wr)
  case atStart => exact ⟨0, k, rfl, by omega, rfl, rfl, by omega, by have := HB.out; omega, by simp [Hid], Below.refl _ _⟩
  case round =>
    obtain ⟨j, x, hg, hj, rfl, rfl, hx0, hx1, HX, hW⟩ := hrel
    by_cases hlt : (j : Int) < (n : Int)
    · have hj' : j < n := by omega
      have hx2 : x + 3 ≤ 1099511627776 := by have := HB.out; have := HX.out; omega
      have hxe : k + ((3 : Nat) : Int) * (j : Int) = x := by have := HX.out; omega
      have hcell : ∀ q u, (combL (markComb x))[q]? = some u → wr.cell? ⟨b, j * 3 + q, none⟩ = some u := fun q u hu => by
        have := H1.out j q u (by rw [markL_len]; exact hj') (by rw [markL_get markComb 3 k n j hj', hxe]; exact hu)
        exact (hW.cell (p := ⟨b, j * 3 + q, none⟩) hb).trans this
      have c0 := hcell 0 (.int .i64 (x)) rfl
      have c1 := hcell 1 (.int .i64 (x + 1)) rfl
      have c2 := hcell 2 (.int .i64 (x + 1 + 1)) rfl
      rw [Nat.add_zero] at c0
      have HC := hideT' hcell
      clear hcell hxe
      go_wp2
      go_roundg (n - (j + 1))
      case measure => omega
      case rel =>
        have hbb := HB.out
        exact ⟨j + 1, x + 3, rfl, by omega, congrArg (Value.int .i64) (by unfold wrap64; omega), congrArg (Value.int .i64) (by omega), by omega, hx2, by have := HX.out; unfold Hid; omega, hW⟩
    · have hjn : j = n := by omega
      have HXN : Hid (x = N) := by unfold Hid; rw [HX.out, HN.out, hjn]
      go_wp2
      go_ret
      exact ⟨by rw [← HN.out, ← HXN.out]; rfl, hW⟩
end Go.Proofs.Ytbkdlkpiaekblaa

/-
  Nodes that came in as an argument: what their reading says of the cells.
-/
namespace Go.Proofs.Ytbkdlkpiaekblaa.CB
open Go.ChangeShapes Go.WideShapes Go.ChangeAt Go.RowKit
set_option linter.unusedVariables false

def ndsOf (l : List (Int × Int × Int)) : List Nd := l.map fun x => ⟨x.1, x.2.1, x.2.2⟩
theorem tri_ndsOf (l : List (Int × Int × Int)) : tri (ndsOf l) = l := by
  unfold tri ndsOf triN
  rw [List.map_map]
  exact List.map_id' l
theorem ndsOf_len (l : List (Int × Int × Int)) : (ndsOf l).length = l.length := by simp [ndsOf]
theorem ndsOf_tri (l : List Nd) : ndsOf (tri l) = l := by
  unfold tri ndsOf triN
  rw [List.map_map]
  exact List.map_id' l
theorem RecAt.nds {w : World} {b : Nat} {T : TypeId} {l : List (Int × Int × Int)} (h : RecAt w b T combL l) : NdIn w (slR b l) (ndsOf l) := by
  unfold NdIn
  rw [tri_ndsOf]
  exact h.inR combL_len

theorem cells_intT : Try.prog.cellsOf 3 = 1 := by kernel_rfl
set_option maxRecDepth 100000 in
theorem open_term {H : Type} {enc : TypeId × Value → H} {W : World} (n : Nat) (cs : List Value) (x : DataW H × List MemPlace) (hl : cs.length = 3) (h : DataW.trod enc Try.prog W 0 (fun _ => true) true n 97 cs = some x) :
    ∃ d : Int × Int × Int, cs = combL d ∧ True := by
  obtain ⟨xs, m, _, _, _, hlen, hf⟩ := DataW.trod_struct Try.underlying97 h
  obtain ⟨a, b, c, rfl⟩ : ∃ a b c, cs = [a, b, c] := by
    match cs, hl with
    | [a, b, c], _ => exact ⟨a, b, c, rfl⟩
  obtain ⟨y0, y1, y2, rfl⟩ : ∃ y0 y1 y2, xs = [y0, y1, y2] := by
    match xs, hlen with
    | [y0, y1, y2], _ => exact ⟨y0, y1, y2, rfl⟩
  have g0 : DataW.trod enc Try.prog W 0 (fun _ => true) true m 3 (([a, b, c].drop 0).take (Try.prog.cellsOf 3)) = some y0 := by simpa using hf 0 _ rfl
  have g1 : DataW.trod enc Try.prog W 0 (fun _ => true) true m 3 (([a, b, c].drop 1).take (Try.prog.cellsOf 3)) = some y1 := by simpa using hf 1 _ rfl
  have g2 : DataW.trod enc Try.prog W 0 (fun _ => true) true m 3 (([a, b, c].drop 2).take (Try.prog.cellsOf 3)) = some y2 := by simpa using hf 2 _ rfl
  rw [cells_intT] at g0 g1 g2
  obtain ⟨k, e0, _, _⟩ := DataW.trod_int Try.underlying3 g0
  obtain ⟨u, e1, _, _⟩ := DataW.trod_int Try.underlying3 g1
  obtain ⟨t, e2, _, _⟩ := DataW.trod_int Try.underlying3 g2
  simp at e0 e1 e2
  exact ⟨(k, u, t), by rw [e0, e1, e2]; rfl, trivial⟩
theorem cells_lterm : Try.prog.cellsOf 97 = 3 := by kernel_rfl

set_option maxRecDepth 100000 in
theorem open_terms {H : Type} {enc : TypeId × Value → H} {W : World} {base : Nat} {v : Value} {d : DataW H} {ps : List MemPlace} (hval : Value.okWide Try.prog W .any base 44 v) (h : DataW.Trod enc Try.prog W 0 (fun _ => true) true 44 v d ps) :
    ∃ l : List (Int × Int × Int), SlR W v combL 3 l ∧ l.length ≤ maxLen := by
  obtain ⟨a0, len, cap, rfl⟩ := okWide_slice Try.underlying44 hval
  obtain ⟨fuel, hf⟩ := h
  obtain ⟨v', l, e1, hL, q1, q2⟩ := open_recs combL 3 (by decide) combL_len (fun _ => True) Try.underlying44 cells_lterm open_term hf
  have e2 : Value.slice a0 len cap = v' := by simpa [Value.cells] using e1
  rw [e2]
  exact ⟨l, hL, q2⟩
end Go.Proofs.Ytbkdlkpiaekblaa.CB
