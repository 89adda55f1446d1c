/-
  The texts CbAbs, CofA, CofS, CofT, ImplRedB, SpecRed, MarkTerm, TermArg, MarkComb, CbTermArg, one behind the other, as one.
-/
import Derived.Test.YtnnhedncdpfiaaaTailCombOfTermB
import Derived.Test.YtnnhedncdpfiaaaTold
import Derived.Test.YtnnhedncdpfiaaaImplRed
import Derived.Maps.OwnIn
import Derived.Test.YtnnhedncdpfiaaaSpecGoodT
import Derived.Test.YtnnhedncdpfiaaaRecs2
import Derived.Test.YtnnhedncdpfiaaaRecTerm
import Derived.Test.YtnnhedncdpfiaaaRecArg
import Derived.Test.YtnnhedncdpfiaaaTreeMem
import Derived.Test.YtnnhedncdpfiaaaRecComb
import Derived.Test.YtnnhedncdpfiaaaCbTreeMem

/-
  What abstracted of the program and both AbstractComb answer.
-/
namespace Go.Proofs.Ytnnhedncdpfiaaa.CB
open Go.RowKit BL
set_option linter.unusedVariables false

set_option maxHeartbeats 1000000 in
theorem combLetter_any (c : Leaf) (hc : c.nm = 0) (w : World) :
    Calls Try.prog 79 #[.int .i64 c.kd] w fun e w' => (∃ b, e = .returned (.pointer (some ⟨b, 0, none⟩)) ∧ TrIn w' (fun x => w.heap.size ≤ x) (.var c) b) ∧ Below w.heap.size w w' := by
  have hz := zero_comb.1
  have hK : KidsAt w (fun _ => False) (.slice none 0 0) [] := ⟨none, 0, rfl, fun h => absurd rfl h, fun p hp => by simp at hp⟩
  have HK := hideT' hK
  have HN := hideT' (nodeOf_var c)
  rw [hc] at HN
  obtain ⟨k, hk⟩ : ∃ k, k = c.kd := ⟨_, rfl⟩
  rw [← hk] at HN ⊢
  clear hK hk
  go_enter Try.func79, Try.ntmps79
  go_wp2_with fail
  refine (treeOf_any k 0 0 _ [] w HK.out.pts (by simp) (by simp)).mono ?_
  intro e w2 hN
  obtain ⟨b', rfl, hbb, hTr, hB2⟩ := treeNew_at (t := .var c) HK.out HN.out hN
  have HF : Hid (TrIn w2 (fun x => w.heap.size ≤ x) (.var c) b' ∧ Below w.heap.size w w2) := ⟨TrIn.mono (fun x hx _ => by rcases hx with hx | hx; exact hx.elim; exact hx) hTr, hB2⟩
  clear hN hTr hB2
  go_wp2
  go_ret
  exact ⟨⟨b', rfl, HF.out.1⟩, HF.out.2⟩
set_option maxHeartbeats 2000000 in
theorem applied_any (s t : Lm) (b1 b2 : Nat) (P : Nat → Prop) (w : World) (h1 : TrIn w P s b1) (h2 : TrIn w P t b2) (hs : s.sz ≤ 1000000) (ht : t.sz ≤ 1000000) :
    Calls Try.prog 78 #[.pointer (some ⟨b1, 0, none⟩), .pointer (some ⟨b2, 0, none⟩)] w fun e w' => (∃ b, e = .returned (.pointer (some ⟨b, 0, none⟩)) ∧ TrIn w' (fun x => P x ∨ w.heap.size ≤ x) (.app s t) b) ∧ Below w.heap.size w w' := by
  have hz := zero_comb.1
  obtain ⟨W, hWd⟩ : ∃ W, W = w.alloc (.cells #[.pointer (some ⟨b1, 0, none⟩), .pointer (some ⟨b2, 0, none⟩)] 68) := ⟨_, rfl⟩
  have hB : Below w.heap.size w W := by rw [hWd]; exact (Below.refl _ _).alloc (Nat.le_refl _) _
  have hR : RowAt W w.heap.size 68 #[.pointer (some ⟨b1, 0, none⟩), .pointer (some ⟨b2, 0, none⟩)] := by rw [hWd]; exact RowAt.new _ _ _
  have hK : KidsAt W (fun x => P x ∨ w.heap.size ≤ x) (.slice (some ⟨w.heap.size, 0, none⟩) 2 2) [(b1, s), (b2, t)] := by
    refine ⟨_, 2, rfl, fun _ => ⟨w.heap.size, rfl, ⟨hR.lt, .inr (Nat.le_refl _)⟩, fun i p hi => ?_⟩, fun p hp => ?_⟩
    · match i, hi with
      | 0, hi => cases hi; rw [cell_of_row _ _ _ _ _ _ hR]; rfl
      | 1, hi => cases hi; rw [cell_of_row _ _ _ _ _ _ hR]; rfl
      | i + 2, hi => simp at hi
    · simp only [List.mem_cons, List.not_mem_nil, or_false] at hp
      rcases hp with rfl | rfl
      · exact TrIn.keep (w := w) hB.size (fun x _ hx => hB.block x hx) (fun x h _ => .inl h) h1
      · exact TrIn.keep (w := w) hB.size (fun x _ hx => hB.block x hx) (fun x h _ => .inl h) h2
  have HK := hideT' hK
  have HB := hideT' hB
  have HPS : Hid (∀ p ∈ ptsOf [(b1, s), (b2, t)], p.2.1 ≤ 1000000 ∧ p.2.2 ≤ 1000000) := by
    intro p hp
    have := s.dp_sz
    have := t.dp_sz
    simp only [ptsOf, List.map_cons, List.map_nil, List.mem_cons, List.not_mem_nil, or_false] at hp
    rcases hp with rfl | rfl <;> simp only <;> omega
  clear hK hB hR h1 h2
  go_enter Try.func78, Try.ntmps78
  go_wp2_with fail
  rw [← hWd]
  refine (treeOf_any 2 0 0 _ (ptsOf [(b1, s), (b2, t)]) W HK.out.pts (by simp [ptsOf]) HPS.out).mono ?_
  intro e w2 hN
  obtain ⟨b', rfl, hbb, hTr, hB2⟩ := treeNew_at (t := .app s t) HK.out (by simp [nodeOf]) hN
  have HF : Hid (TrIn w2 (fun x => P x ∨ w.heap.size ≤ x) (.app s t) b' ∧ Below w.heap.size w w2) := ⟨TrIn.mono (fun x hx _ => by rcases hx with hx | hx; exact hx; exact .inr (by have := HB.out.size; omega)) hTr, HB.out.trans (hB2.mono HB.out.size)⟩
  clear hN hTr hB2 hWd
  go_wp2
  go_ret
  exact ⟨⟨b', rfl, HF.out.1⟩, HF.out.2⟩
def AbC (x : Int) (N : Nat) : Prop := ∀ (t : Lm), t.sz ≤ N → ∀ (b : Nat) (P : Nat → Prop) (w : World), TrIn w P t b → t.sz ≤ 1000 →
    Calls Try.prog 54 #[.pointer (some ⟨b, 0, none⟩), .int .i64 x] w fun e w' => (∃ b', e = .returned (.pointer (some ⟨b', 0, none⟩)) ∧ TrIn w' (fun y => P y ∨ w.heap.size ≤ y) (t.abs x) b') ∧ Below w.heap.size w w'
set_option maxHeartbeats 8000000 in
set_option maxRecDepth 100000 in
theorem abstracted_step (x : Int) (N : Nat) (IH : ∀ n, n < N → AbC x n) : AbC x N := by
  intro t ht b P w hT hsz
  have HT := hideT' hT
  have HIH := hideT' IH
  have HTN := hideT' ht
  have HC := hideT' (hasVariable_any t b x P w hT (by omega))
  obtain ⟨r, hr⟩ : ∃ r, r = t.has x := ⟨_, rfl⟩
  rw [← hr] at HC
  have HR := hideT' hr
  clear IH ht hr hT
  go_enter Try.func54, Try.ntmps54
  go_wp2_with fail
  refine HC.out.mono ?_
  rintro e w1 ⟨rfl, hB1⟩
  have HB1 := hideT' hB1
  have hT1 : TrIn w1 (fun y => P y ∧ y < w.heap.size) t b := TrIn.keep (w := w) hB1.size (fun y _ hy => hB1.block y hy) (fun y h hy => ⟨h, hy⟩) HT.out
  have HT1 := hideT' hT1
  clear hB1
  cases r with
  | false =>
    have HE := hideT' (Lm.abs_no HR.out.symm)
    have HC2 := hideT' (combLetter_any .k rfl w1)
    clear hT1
    unfold Leaf.kd at HC2
    go_wp2_with fail
    refine HC2.out.mono ?_
    rintro e w2 ⟨⟨b2, rfl, hT2⟩, hB2⟩
    have hs2 := hB2.size
    have HC3 := hideT' (applied_any (.var .k) t b2 b (fun y => (P y ∧ y < w.heap.size) ∨ w1.heap.size ≤ y) w2 (TrIn.mono (fun y h _ => .inr h) hT2) (TrIn.keep (w := w1) hB2.size (fun y _ hy => hB2.block y hy) (fun y h _ => .inl h) HT1.out) (by simp [Lm.sz]) (by omega))
    have HB2 : Hid (Below w.heap.size w w2) := HB1.out.trans (hB2.mono HB1.out.size)
    have HS2 : Hid (w.heap.size ≤ w1.heap.size) := HB1.out.size
    clear hT2 hB2 hs2
    go_wp2_with fail
    refine HC3.out.mono ?_
    rintro e w3 ⟨⟨b3, rfl, hT3⟩, hB3⟩
    have HF : Hid (TrIn w3 (fun y => P y ∨ w.heap.size ≤ y) (.app (.var .k) t) b3 ∧ Below w.heap.size w w3) := ⟨TrIn.mono (fun y hy _ => by have := HS2.out; have := HB2.out.size; rcases hy with (hy | hy) | hy; exact .inl hy.1; exact .inr (by omega); exact .inr (by omega)) hT3, HB2.out.trans (hB3.mono HB2.out.size)⟩
    clear hT3 hB3
    go_wp2
    go_ret
    exact ⟨⟨b3, rfl, by rw [HE.out]; exact HF.out.1⟩, HF.out.2⟩
  | true =>
    have HC2 := hideT' (isVariable_any t b x _ w1 hT1)
    rcases has_kd1 HR.out.symm with hk1 | ⟨s, u, hsu⟩
    · have HE : Hid (t.abs x = .var .i ∧ t.isV x = true) := by
        cases t with
        | var c => exact ⟨Lm.abs_var HR.out.symm, HR.out.symm⟩
        | app a b => simp [Lm.kd] at hk1
      rw [HE.out.2] at HC2
      have HC3 := hideT' (combLetter_any .i rfl w1)
      unfold Leaf.kd at HC3
      clear hT1 hk1
      go_wp2_with fail
      refine HC2.out.mono ?_
      rintro e w2 ⟨rfl, hw2⟩
      rw [hw2]
      clear hw2
      go_wp2_with fail
      refine HC3.out.mono ?_
      rintro e w3 ⟨⟨b3, rfl, hT3⟩, hB3⟩
      have HF : Hid (TrIn w3 (fun y => P y ∨ w.heap.size ≤ y) (.var .i) b3 ∧ Below w.heap.size w w3) := ⟨TrIn.mono (fun y hy _ => .inr (by have := HB1.out.size; omega)) hT3, HB1.out.trans (hB3.mono HB1.out.size)⟩
      clear hT3 hB3
      go_wp2
      go_ret
      exact ⟨⟨b3, rfl, by rw [HE.out.1]; exact HF.out.1⟩, HF.out.2⟩
    · subst hsu
      have HV0 : Hid ((Lm.app s u).isV x = false) := rfl
      rw [HV0.out] at HC2
      obtain ⟨o, c, hpc, hkid⟩ := hT1.parts
      simp only [Lm.kids, List.length_cons, List.length_nil, Nat.zero_add, Nat.reduceAdd] at hpc
      obtain ⟨g, bs, rfl, hg, _, hcs, hTs⟩ := hkid 0 s rfl
      obtain ⟨g', bu, e', _, _, hcu, hTu⟩ := hkid 1 u rfl
      cases e'
      have hbl := hT1.lt
      simp only [Lm.sz] at hsz
      have HSU := hideT' (And.intro hTs hTu)
      have HCU : Hid (∀ k, Calls Try.prog 58 #[.pointer (some ⟨bu, 0, none⟩), .int .i64 x] (w1.drewN k) fun e w' => e = .returned (.bool (u.isV x)) ∧ w' = w1.drewN k) := fun k => isVariable_any u bu x _ (w1.drewN k) (hTu.drN k)
      have HCS : Hid (∀ k, Calls Try.prog 77 #[.pointer (some ⟨bs, 0, none⟩), .int .i64 x] (w1.drewN k) fun e w' => e = .returned (.bool (s.has x)) ∧ Below w1.heap.size w1 w') := fun k => (hasVariable_any s bs x _ (w1.drewN k) (hTs.drN k) (by omega)).mono fun e w' h => ⟨h.1, ⟨h.2.os, h.2.tape, h.2.output, h.2.size, h.2.block⟩⟩
      obtain ⟨ru, hru⟩ : ∃ ru, ru = u.isV x := ⟨_, rfl⟩
      obtain ⟨rs, hrs⟩ : ∃ rs, rs = s.has x := ⟨_, rfl⟩
      rw [← hru] at HCU
      rw [← hrs] at HCS
      have HRSU := hideT' (And.intro hrs hru)
      have HREC : Hid (∀ w2, Below w1.heap.size w1 w2 → Calls Try.prog 79 #[.int .i64 3] w2 fun e w' => (∃ b, e = .returned (.pointer (some ⟨b, 0, none⟩)) ∧ TrIn w' (fun x => w2.heap.size ≤ x) (.var .s) b) ∧ Below w2.heap.size w2 w') := fun w2 _ => combLetter_any .s rfl w2
      clear hT1 hkid hTs hTu hru hrs
      go_wp2_with fail
      refine HC2.out.mono ?_
      rintro e w2 ⟨rfl, hw2⟩
      rw [hw2]
      clear hw2
      go_wp2_with fail
      go_quiet (fail)
      go_wp2_with fail
      refine (HCU.out _).mono ?_
      rintro e w3 ⟨rfl, hw3⟩
      cases ru with
      | true =>
        rw [hw3]
        clear hw3
        go_wp2_with fail
        refine (HCS.out _).mono ?_
        rintro e w4 ⟨rfl, hB4⟩
        cases rs with
        | false =>
          have HE : Hid ((Lm.app s u).abs x = s) := Lm.abs_eta HR.out.symm (by rw [← HRSU.out.1, ← HRSU.out.2]; rfl)
          have HF : Hid (TrIn w4 (fun y => P y ∨ w.heap.size ≤ y) s bs ∧ Below w.heap.size w w4) := ⟨TrIn.keep (w := w1) hB4.size (fun y _ hy => hB4.block y hy) (fun y h _ => .inl h.1) HSU.out.1, HB1.out.trans (hB4.mono HB1.out.size)⟩
          clear hB4
          go_wp2
          go_ret
          exact ⟨⟨bs, rfl, by rw [HE.out]; exact HF.out.1⟩, HF.out.2⟩
        | true =>
          have HE : Hid ((Lm.app s u).abs x = .app (.app (.var .s) (s.abs x)) (u.abs x)) := Lm.abs_app HR.out.symm (by rw [← HRSU.out.1, ← HRSU.out.2]; rfl)
          have HB4 := hideT' hB4
          clear hB4
          have hs4 := HB4.out.size
          have HC5 := hideT' (combLetter_any .s rfl w4)
          unfold Leaf.kd at HC5
          go_wp2_with fail
          refine HC5.out.mono ?_
          rintro e w5 ⟨⟨b5, rfl, hT5⟩, hB5⟩
          have hs5 := hB5.size
          have hB15 : Below w1.heap.size w1 w5 := HB4.out.trans (hB5.mono HB4.out.size)
          have HB15 := hideT' hB15
          have HT5 := hideT' hT5
          have HC6 := hideT' (HIH.out s.sz (by have := HTN.out; simp only [Lm.sz] at this; omega) s (Nat.le_refl _) bs (fun y => P y ∧ y < w.heap.size) w5 (TrIn.below hB15 HSU.out.1) (by omega))
          clear hT5 hB5 hB15
          go_wp2_with fail
          refine HC6.out.mono ?_
          rintro e w6 ⟨⟨b6, rfl, hT6⟩, hB6⟩
          have hs6 := hB6.size
          have hz6 := Lm.abs_sz x s
          have HC7 := hideT' (applied_any (.var .s) (s.abs x) b5 b6 (fun y => (P y ∧ y < w.heap.size) ∨ w4.heap.size ≤ y) w6 (TrIn.keep (w := w5) hB6.size (fun y _ hy => hB6.block y hy) (fun y h _ => .inr h) HT5.out) (TrIn.mono (fun y h _ => h.imp id (fun h => by omega)) hT6) (by simp [Lm.sz]) (by omega))
          have HB16 : Hid (Below w1.heap.size w1 w6) := HB15.out.trans (hB6.mono HB15.out.size)
          clear hT6 hB6
          go_wp2_with fail
          refine HC7.out.mono ?_
          rintro e w7 ⟨⟨b7, rfl, hT7⟩, hB7⟩
          have hs7 := hB7.size
          have hB17 : Below w1.heap.size w1 w7 := HB16.out.trans (hB7.mono HB16.out.size)
          have HB17 := hideT' hB17
          have HT7 := hideT' hT7
          have HC8 := hideT' (HIH.out u.sz (by have := HTN.out; simp only [Lm.sz] at this; omega) u (Nat.le_refl _) bu (fun y => P y ∧ y < w.heap.size) w7 (TrIn.below hB17 HSU.out.2) (by omega))
          clear hT7 hB7 hB17
          go_wp2_with fail
          refine HC8.out.mono ?_
          rintro e w8 ⟨⟨b8, rfl, hT8⟩, hB8⟩
          have hs8 := hB8.size
          have hz8 := Lm.abs_sz x u
          have HC9 := hideT' (applied_any (.app (.var .s) (s.abs x)) (u.abs x) b7 b8 (fun y => (P y ∧ y < w.heap.size) ∨ w4.heap.size ≤ y) w8 (TrIn.keep (w := w7) hB8.size (fun y _ hy => hB8.block y hy) (fun y h _ => by rcases h with h | h; exact h; exact .inr (by omega)) HT7.out) (TrIn.mono (fun y h _ => h.imp id (fun h => by omega)) hT8) (by simp only [Lm.sz]; omega) (by omega))
          have HB18 : Hid (Below w1.heap.size w1 w8) := HB17.out.trans (hB8.mono HB17.out.size)
          clear hT8 hB8
          go_wp2_with fail
          refine HC9.out.mono ?_
          rintro e w9 ⟨⟨b9, rfl, hT9⟩, hB9⟩
          have HF : Hid (TrIn w9 (fun y => P y ∨ w.heap.size ≤ y) (.app (.app (.var .s) (s.abs x)) (u.abs x)) b9 ∧ Below w.heap.size w w9) := ⟨TrIn.mono (fun y hy _ => by have := HB1.out.size; rcases hy with (hy | hy) | hy; exact .inl hy.1; exact .inr (by omega); exact .inr (by omega)) hT9, (HB1.out.trans (HB18.out.mono HB1.out.size)).trans (hB9.mono (by have := HB1.out.size; omega))⟩
          clear hT9 hB9
          go_wp2
          go_ret
          exact ⟨⟨b9, rfl, by rw [HE.out]; exact HF.out.1⟩, HF.out.2⟩
      | false =>
        have HE : Hid ((Lm.app s u).abs x = .app (.app (.var .s) (s.abs x)) (u.abs x)) := Lm.abs_app HR.out.symm (by rw [← HRSU.out.2]; rfl)
        have HB4 : Hid (Below w1.heap.size w1 w3) := by unfold Hid; rw [hw3]; exact below_drN (Below.refl _ _) _
        obtain ⟨w4, hw4⟩ : ∃ w4, w4 = w3 := ⟨_, rfl⟩
        rw [← hw4] at HB4 ⊢
        clear hw3 hw4
        have hs4 := HB4.out.size
        have HC5 := hideT' (combLetter_any .s rfl w4)
        unfold Leaf.kd at HC5
        go_wp2_with fail
        refine HC5.out.mono ?_
        rintro e w5 ⟨⟨b5, rfl, hT5⟩, hB5⟩
        have hs5 := hB5.size
        have hB15 : Below w1.heap.size w1 w5 := HB4.out.trans (hB5.mono HB4.out.size)
        have HB15 := hideT' hB15
        have HT5 := hideT' hT5
        have HC6 := hideT' (HIH.out s.sz (by have := HTN.out; simp only [Lm.sz] at this; omega) s (Nat.le_refl _) bs (fun y => P y ∧ y < w.heap.size) w5 (TrIn.below hB15 HSU.out.1) (by omega))
        clear hT5 hB5 hB15
        go_wp2_with fail
        refine HC6.out.mono ?_
        rintro e w6 ⟨⟨b6, rfl, hT6⟩, hB6⟩
        have hs6 := hB6.size
        have hz6 := Lm.abs_sz x s
        have HC7 := hideT' (applied_any (.var .s) (s.abs x) b5 b6 (fun y => (P y ∧ y < w.heap.size) ∨ w4.heap.size ≤ y) w6 (TrIn.keep (w := w5) hB6.size (fun y _ hy => hB6.block y hy) (fun y h _ => .inr h) HT5.out) (TrIn.mono (fun y h _ => h.imp id (fun h => by omega)) hT6) (by simp [Lm.sz]) (by omega))
        have HB16 : Hid (Below w1.heap.size w1 w6) := HB15.out.trans (hB6.mono HB15.out.size)
        clear hT6 hB6
        go_wp2_with fail
        refine HC7.out.mono ?_
        rintro e w7 ⟨⟨b7, rfl, hT7⟩, hB7⟩
        have hs7 := hB7.size
        have hB17 : Below w1.heap.size w1 w7 := HB16.out.trans (hB7.mono HB16.out.size)
        have HB17 := hideT' hB17
        have HT7 := hideT' hT7
        have HC8 := hideT' (HIH.out u.sz (by have := HTN.out; simp only [Lm.sz] at this; omega) u (Nat.le_refl _) bu (fun y => P y ∧ y < w.heap.size) w7 (TrIn.below hB17 HSU.out.2) (by omega))
        clear hT7 hB7 hB17
        go_wp2_with fail
        refine HC8.out.mono ?_
        rintro e w8 ⟨⟨b8, rfl, hT8⟩, hB8⟩
        have hs8 := hB8.size
        have hz8 := Lm.abs_sz x u
        have HC9 := hideT' (applied_any (.app (.var .s) (s.abs x)) (u.abs x) b7 b8 (fun y => (P y ∧ y < w.heap.size) ∨ w4.heap.size ≤ y) w8 (TrIn.keep (w := w7) hB8.size (fun y _ hy => hB8.block y hy) (fun y h _ => by rcases h with h | h; exact h; exact .inr (by omega)) HT7.out) (TrIn.mono (fun y h _ => h.imp id (fun h => by omega)) hT8) (by simp only [Lm.sz]; omega) (by omega))
        have HB18 : Hid (Below w1.heap.size w1 w8) := HB17.out.trans (hB8.mono HB17.out.size)
        clear hT8 hB8
        go_wp2_with fail
        refine HC9.out.mono ?_
        rintro e w9 ⟨⟨b9, rfl, hT9⟩, hB9⟩
        have HF : Hid (TrIn w9 (fun y => P y ∨ w.heap.size ≤ y) (.app (.app (.var .s) (s.abs x)) (u.abs x)) b9 ∧ Below w.heap.size w w9) := ⟨TrIn.mono (fun y hy _ => by have := HB1.out.size; rcases hy with (hy | hy) | hy; exact .inl hy.1; exact .inr (by omega); exact .inr (by omega)) hT9, (HB1.out.trans (HB18.out.mono HB1.out.size)).trans (hB9.mono (by have := HB1.out.size; omega))⟩
        clear hT9 hB9
        go_wp2
        go_ret
        exact ⟨⟨b9, rfl, by rw [HE.out]; exact HF.out.1⟩, HF.out.2⟩
theorem abstracted_all (x : Int) : ∀ N, AbC x N := by
  intro N
  induction N using Nat.strongRecOn with
  | _ N IH => exact abstracted_step x N IH
def AbT (l : List Nd) (x : Int) : Option Lm := match readP' l with
  | some t => if 0 ≤ x ∧ x ≤ 999 then some (t.abs x) else none
  | _ => none
theorem AbT_l {l : List Nd} {k : Int} (h : readP' l = none) : AbT l k = none := by unfold AbT; rw [h]
theorem AbT_k {l : List Nd} {k : Int} (h : ¬ (0 ≤ k ∧ k ≤ 999)) : AbT l k = none := by unfold AbT; cases readP' l <;> simp [h]
theorem AbT_ok {l : List Nd} {k : Int} {t : Lm} (h1 : readP' l = some t) (h : 0 ≤ k ∧ k ≤ 999) : AbT l k = some (t.abs k) := by unfold AbT; rw [h1]; simp [h]
set_option maxHeartbeats 4000000 in
theorem implAbstractComb_any (l : List Nd) (k : Int) (v : Value) (w : World) (hv : NdIn w v l) (hl : l.length ≤ 1048576) :
    Calls Try.prog 28 #[v, .int .i64 k] w fun e w' => TOut w (AbT l k) e w' ∧ Below w.heap.size w w' := by
  have HC := hideT' (readTree_any l v w hv hl)
  clear hv
  go_enter Try.func28, Try.ntmps28
  go_wp2_with fail
  refine HC.out.mono ?_
  rintro e w1 ⟨hans, hB1⟩
  have HB1 := hideT' hB1
  clear hB1
  rcases hans with ⟨p, rfl, hn⟩ | ⟨t, b, rfl, hr, hT⟩
  · have HN := hideT' (AbT_l (k := k) hn)
    clear hn
    go_wp2
    go_ret2
    exact ⟨TOut.bad HN.out, HB1.out⟩
  · have f1 := readP'_facts hr
    by_cases hk : 0 ≤ k ∧ k ≤ 999
    · have HN := hideT' (AbT_ok hr hk)
      obtain ⟨hk1, hk2⟩ := hk
      have HC3 := hideT' (abstracted_all k t.sz t (Nat.le_refl _) b _ w1 hT (by omega))
      have HSZ : Hid ((t.abs k).sz ≤ 1000000) := by unfold Hid; have := Lm.abs_sz k t; omega
      clear hr hT f1
      go_wp2_with fail
      refine HC3.out.mono ?_
      rintro e w3 ⟨⟨b3, rfl, hT3⟩, hB3⟩
      have HB3 : Hid (Below w.heap.size w w3) := HB1.out.trans (hB3.mono HB1.out.size)
      have HC4 := hideT' (tellTree_any _ b3 _ w3 hT3 HSZ.out)
      clear hT3 hB3
      go_wp2_with fail
      refine HC4.out.mono ?_
      rintro e w4 ⟨hT4, hB4⟩
      obtain ⟨u4, rfl, hO4⟩ := hT4
      have HF : Hid (TOut w (AbT l k) (.returned (.tuple #[u4, .bool (t.abs k).good])) w4 ∧ Below w.heap.size w w4) := ⟨ToldT.out (t := t.abs k) ⟨u4, rfl, hO4⟩ HB3.out.size HN.out, HB3.out.trans (hB4.mono HB3.out.size)⟩
      obtain ⟨q, hq⟩ : ∃ q, q = (t.abs k).good := ⟨_, rfl⟩
      rw [← hq] at HF ⊢
      clear hq hO4 hB4
      go_wp2
      go_ret2
      exact HF.out
    · have HN := hideT' (AbT_k (l := l) hk)
      clear hr hT f1
      by_cases h0 : k < 0
      · go_wp2
        go_ret2
        exact ⟨TOut.bad HN.out, HB1.out⟩
      · have h9 : 999 < k := by omega
        go_wp2
        go_ret2
        exact ⟨TOut.bad HN.out, HB1.out⟩
set_option maxHeartbeats 4000000 in
theorem specAbstractComb_any (l : List Nd) (k : Int) (v : Value) (w : World) (hv : NdIn w v l) (hl : l.length ≤ 1048576) :
    Calls Try.prog 27 #[v, .int .i64 k] w fun e w' => TOut w (AbT l k) e w' ∧ Below w.heap.size w w' := by
  have HV := hideT' hv
  have HC := hideT' (specGoodComb_any l v w hv hl)
  clear hv
  cases hr : readP' l with
  | none =>
    have HN := hideT' (AbT_l (k := k) hr)
    rw [goodS_none hr] at HC
    clear hr
    go_enter Try.func27, Try.ntmps27
    go_wp2_with fail
    refine HC.out.mono ?_
    rintro e w1 ⟨rfl, hB1⟩
    go_wp2
    go_ret2
    exact ⟨TOut.bad HN.out, hB1⟩
  | some t =>
    rw [goodS_some hr] at HC
    have HR := hideT' hr
    clear hr
    go_enter Try.func27, Try.ntmps27
    go_wp2_with fail
    refine HC.out.mono ?_
    rintro e w2 ⟨rfl, hB2⟩
    have HB2 := hideT' hB2
    clear hB2
    go_wp2_with fail
    refine (l1In_any k 0 999 _).mono ?_
    rintro e w3 ⟨rfl, hw3⟩
    rw [hw3]
    clear hw3
    by_cases hk : 0 ≤ k ∧ k ≤ 999
    · have HN := hideT' (AbT_ok HR.out hk)
      rw [decide_eq_true hk.1, decide_eq_true hk.2]
      clear hk
      have HC3 := hideT' (lcTree_whole l t v w2 (HV.out.below HB2.out) HR.out)
      go_wp2_with fail
      refine HC3.out.mono ?_
      rintro e w4 ⟨⟨z4, rfl, hz4⟩, hB4⟩
      have HB4 : Hid (Below w.heap.size w w4) := HB2.out.trans (hB4.mono HB2.out.size)
      have HC5 := hideT' (ldAbstract_all k t.sz t (Nat.le_refl _) z4 _ w4 hz4)
      clear hB4 hz4
      go_wp2_with fail
      refine HC5.out.mono ?_
      rintro e w6 ⟨⟨z6, rfl, hz6⟩, hB6⟩
      have HB6 : Hid (Below w.heap.size w w6) := HB4.out.trans (hB6.mono HB4.out.size)
      have HC6 := hideT' (lcTold_any (t.abs k) z6 _ w6 hz6)
      clear hB6 hz6
      go_wp2_with fail
      refine HC6.out.mono ?_
      rintro e w7 ⟨hT4, hB4⟩
      obtain ⟨u4, rfl, hO4⟩ := hT4
      have HF : Hid (TOut w (AbT l k) (.returned (.tuple #[u4, .bool (t.abs k).good])) w7 ∧ Below w.heap.size w w7) := ⟨ToldT.out (t := t.abs k) ⟨u4, rfl, hO4⟩ HB6.out.size HN.out, HB6.out.trans (hB4.mono HB6.out.size)⟩
      obtain ⟨q, hq⟩ : ∃ q, q = (t.abs k).good := ⟨_, rfl⟩
      rw [← hq] at HF ⊢
      clear hq hO4 hB4
      go_wp2
      go_ret2
      exact HF.out
    · have HN := hideT' (AbT_k (l := l) hk)
      have hbb : (decide (0 ≤ k) && decide (k ≤ 999)) = false := by simpa using hk
      rw [hbb]
      clear hbb hk
      go_wp2
      go_ret2
      exact ⟨TOut.bad HN.out, HB2.out⟩
end Go.Proofs.Ytnnhedncdpfiaaa.CB

/-
  What combOf of the program makes.
-/
namespace Go.Proofs.Ytnnhedncdpfiaaa.CB
open Go.RowKit BL
set_option linter.unusedVariables false

set_option maxHeartbeats 1000000 in
theorem combVariable_any (n : Int) (w : World) :
    Calls Try.prog 91 #[.int .i64 n] w fun e w' => (∃ b, e = .returned (.pointer (some ⟨b, 0, none⟩)) ∧ TrIn w' (fun x => w.heap.size ≤ x) (.var (.v n)) b) ∧ Below w.heap.size w w' := by
  have hz := zero_comb.1
  have hK : KidsAt w (fun _ => False) (.slice none 0 0) [] := ⟨none, 0, rfl, fun h => absurd rfl h, fun p hp => by simp at hp⟩
  have HK := hideT' hK
  have HN : Hid (nodeOf 1 n ([] : List Lm) = some (.var (.v n))) := nodeOf_var (.v n)
  clear hK
  go_enter Try.func91, Try.ntmps91
  go_wp2_with fail
  refine (treeOf_any 1 n 0 _ [] w HK.out.pts (by simp) (by simp)).mono ?_
  intro e w2 hN
  obtain ⟨b', rfl, hbb, hTr, hB2⟩ := treeNew_at (t := .var (.v n)) HK.out HN.out hN
  have HF : Hid (TrIn w2 (fun x => w.heap.size ≤ x) (.var (.v n)) b' ∧ Below w.heap.size w w2) := ⟨TrIn.mono (fun x hx _ => by rcases hx with hx | hx; exact hx.elim; exact hx) hTr, hB2⟩
  clear hN hTr hB2
  go_wp2
  go_ret
  exact ⟨⟨b', rfl, HF.out.1⟩, HF.out.2⟩
end Go.Proofs.Ytnnhedncdpfiaaa.CB
namespace Go.Proofs.Ytnnhedncdpfiaaa
open Go.RowKit BL
set_option linter.unusedVariables false

/-- The variable that the variable n becomes under m lambdas. -/
def cofV (n : Int) (m : Nat) : Int := if (m : Int) ≤ n then n - m else 100 + m - 1 - n
/-- A comb, where it is good. -/
def chkC (c : CB.Lm) : Option CB.Lm := if c.good then some c else none
/-- A term as a comb, with m lambdas around it. -/
def cof : Lm → Nat → Option CB.Lm
  | .var n, m => some (.var (.v (cofV n m)))
  | .lam t, m => match cof t (m + 1) with
    | none => none
    | some c => chkC (c.abs (100 + m))
  | .app s t, m => match cof s m with
    | none => none
    | some a => match cof t m with
      | none => none
      | some b => chkC (.app a b)
theorem chkC_sz {c d : CB.Lm} (h : chkC c = some d) : d.sz ≤ 200 := by
  unfold chkC at h
  split at h
  · rename_i hg
    injection h with h
    subst h
    exact (CB.Lm.good_sz hg).1
  · cases h
theorem cof_sz : ∀ {t : Lm} {m : Nat} {c : CB.Lm}, cof t m = some c → c.sz ≤ 200
  | .var n, m, c, h => by rw [cof] at h; injection h with h; subst h; simp [CB.Lm.sz]
  | .lam t, m, c, h => by
    rw [cof] at h
    cases h1 : cof t (m + 1) with
    | none => rw [h1] at h; cases h
    | some d => rw [h1] at h; exact chkC_sz h
  | .app s t, m, c, h => by
    rw [cof] at h
    cases h1 : cof s m with
    | none => rw [h1] at h; cases h
    | some d =>
      rw [h1] at h
      cases h2 : cof t m with
      | none => rw [h2] at h; cases h
      | some e => rw [h2] at h; exact chkC_sz h
theorem cof_none {t p : Lm} {m : Nat} (hp : p ∈ t.kids) (h : cof p (m + t.lams) = none) : cof t m = none := by
  cases t with
  | var n => simp [Lm.kids] at hp
  | lam t => simp [Lm.kids] at hp; subst hp; rw [cof]; have h2 : cof p (m + 1) = none := h; rw [h2]
  | app a b =>
    simp [Lm.kids] at hp
    rcases hp with rfl | rfl
    · rw [cof]; have h2 : cof p m = none := h; rw [h2]
    · rw [cof]; have h2 : cof p m = none := h; rw [h2]; cases cof a m <;> rfl
set_option maxHeartbeats 1000000 in
theorem combOfVariable_any (n : Int) (m : Nat) (w : World) (hn : 0 ≤ n ∧ n ≤ 99) (hm : m ≤ 1000) :
    Calls Try.prog 84 #[.int .i64 n, .int .i64 (m : Int)] w fun e w' => (∃ b, e = .returned (.pointer (some ⟨b, 0, none⟩)) ∧ CB.TrIn w' (fun x => w.heap.size ≤ x) (.var (.v (cofV n m))) b) ∧ Below w.heap.size w w' := by
  obtain ⟨h0, h9⟩ := hn
  have hm' : (m : Int) ≤ 1000 := by omega
  have hm0 : (0 : Int) ≤ (m : Int) := by omega
  by_cases hg : (m : Int) ≤ n
  · have HE : Hid (cofV n m = n - m) := if_pos hg
    have HC := hideT' (CB.combVariable_any (n - m) w)
    rw [HE.out]
    go_enter Try.func84, Try.ntmps84
    go_wp2_with fail
    refine HC.out.mono ?_
    rintro e w2 ⟨⟨b, rfl, hT⟩, hB⟩
    have HF := hideT' (And.intro hT hB)
    clear hT hB
    go_wp2
    go_ret
    exact ⟨⟨b, rfl, HF.out.1⟩, HF.out.2⟩
  · have HE : Hid (cofV n m = 100 + m - 1 - n) := if_neg hg
    have HC := hideT' (CB.combVariable_any (100 + m - 1 - n) w)
    rw [HE.out]
    go_enter Try.func84, Try.ntmps84
    go_wp2_with fail
    refine HC.out.mono ?_
    rintro e w2 ⟨⟨b, rfl, hT⟩, hB⟩
    have HF := hideT' (And.intro hT hB)
    clear hT hB
    go_wp2
    go_ret
    exact ⟨⟨b, rfl, HF.out.1⟩, HF.out.2⟩
/-- The answer of combOf. -/
def CoAns (N : Nat) (r : Option CB.Lm) (e : Ending) (w' : World) : Prop := match r with
  | none => ∃ p, e = .returned (.tuple #[.pointer p, .bool false])
  | some s => ∃ b, e = .returned (.tuple #[.pointer (some ⟨b, 0, none⟩), .bool true]) ∧ CB.TrIn w' (fun x => N ≤ x) s b
theorem CoAns.chk {N b : Nat} {c : CB.Lm} {w' : World} {g : Bool} (hg : g = c.good) (hT : CB.TrIn w' (fun x => N ≤ x) c b) : CoAns N (chkC c) (.returned (.tuple #[.pointer (some ⟨b, 0, none⟩), .bool g])) w' := by
  subst hg
  unfold chkC
  cases c.good with
  | true => exact ⟨b, rfl, hT⟩
  | false => exact ⟨_, rfl⟩
def CoC (N : Nat) : Prop := ∀ (t : Lm), t.sz ≤ N → ∀ (b : Nat) (P : Nat → Prop) (w : World) (m : Nat), TrIn w P t b → t.ok = true → m + t.dp ≤ 1000 →
    Calls Try.prog 66 #[.pointer (some ⟨b, 0, none⟩), .int .i64 (m : Int)] w fun e w' => CoAns w.heap.size (cof t m) e w' ∧ Below w.heap.size w w'
theorem ok_part {t s : Lm} (h : t.ok = true) (hs : s ∈ t.kids) : s.ok = true := by
  cases t with
  | var n => simp [Lm.kids] at hs
  | lam t => simp [Lm.kids] at hs; subst hs; exact h
  | app p q => simp only [Lm.ok, Bool.and_eq_true] at h; simp [Lm.kids] at hs; rcases hs with rfl | rfl; exact h.1; exact h.2
theorem dp_part {t s : Lm} (hs : s ∈ t.kids) : t.lams + s.dp ≤ t.dp := by
  cases t with
  | var n => simp [Lm.kids] at hs
  | lam t => simp [Lm.kids] at hs; subst hs; simp only [Lm.dp, Lm.lams]; omega
  | app p q => simp [Lm.kids] at hs; rcases hs with rfl | rfl <;> simp only [Lm.dp, Lm.lams] <;> omega
set_option maxHeartbeats 8000000 in
set_option maxRecDepth 100000 in
theorem combOf_step (N : Nat) (IH : ∀ n, n < N → CoC n) : CoC N := by
  intro t ht b P w m hT hok hmd
  have HIH := hideT' IH
  have HT := hideT' hT
  have HTN := hideT' ht
  have HOK := hideT' hok
  have HMD := hideT' hmd
  have hm : m ≤ 1000 := by omega
  have hm' : (m : Int) ≤ 1000 := by omega
  obtain ⟨o, c, hpc, _⟩ := hT.parts
  obtain ⟨u, k0, k1, k2⟩ := hT.own3
  have hbl := hT.lt
  by_cases hkv : t.kd = 1
  · cases t with
    | var n =>
      simp only [Lm.ok, Bool.and_eq_true, decide_eq_true_eq] at hok
      have HC := hideT' (combOfVariable_any n m w hok hm)
      simp only [Lm.kd] at k0
      simp only [Lm.nm] at k1
      clear IH ht hT hmd hkv hpc k2 hok
      go_enter Try.func66, Try.ntmps66
      go_wp2_with fail
      refine HC.out.mono ?_
      rintro e w2 ⟨⟨b2, rfl, hT2⟩, hB2⟩
      have HF := hideT' (And.intro hT2 hB2)
      clear hT2 hB2
      go_wp2
      go_ret2
      exact ⟨⟨b2, rfl, HF.out.1⟩, HF.out.2⟩
    | lam s => simp [Lm.kd] at hkv
    | app s s2 => simp [Lm.kd] at hkv
  obtain ⟨q, hq⟩ : ∃ q, q = t.kids.length := ⟨_, rfl⟩
  have hq2 : q ≤ 2 := by rw [hq]; cases t <;> simp [Lm.kids]
  rw [← hq] at hpc
  have HQ := hideT' hq
  have hmk := CB.make_ptree q (by omega)
  obtain ⟨kd, hkd⟩ : ∃ kd, kd = t.kd := ⟨_, rfl⟩
  rw [← hkd] at k0 hkv
  have hkv2 : (kd == 1) = false := by simpa using hkv
  have HKN := hideT' hkd
  clear IH ht hT hok hmd hq hkd k1 k2
  have HNEW : Hid (RecAt (w.alloc (.cells ((List.replicate q (none : Option Nat)).flatMap CB.ptrL).toArray 68)) w.heap.size 68 CB.ptrL (List.replicate q none)) := RowAt.new _ _ _
  have HBN : Hid (Below w.heap.size w (w.alloc (.cells ((List.replicate q (none : Option Nat)).flatMap CB.ptrL).toArray 68))) := (Below.refl _ _).alloc (Nat.le_refl _) _
  go_enter Try.func66, Try.ntmps66
  go_wp2_with fail
  clear hmk
  obtain ⟨G, hG⟩ : ∃ G, G = w.heap.size := ⟨_, rfl⟩
  have HG := hideT' hG
  rw [← hG]
  clear hG
  go_loopg [36] q (fun gg i wr => ∃ (As Bs : List Lm) (ks : List (Nat × CB.Lm)), gg = Bs.length ∧ Hid (t.kids = As ++ Bs) ∧ i = .int .i64 (As.length : Int) ∧ Hid (As.map (fun s => cof s (m + t.lams)) = (ks.map Prod.snd).map some ∧ RecAt wr G 68 CB.ptrL (ks.map (fun p => some p.1) ++ List.replicate (q - As.length) none) ∧ (∀ p ∈ ks, CB.TrIn wr (fun x => G < x) p.2 p.1) ∧ Below w.heap.size w wr))
  case atStart => exact ⟨[], t.kids, [], by rw [HQ.out], rfl, rfl, ⟨rfl, by rw [HG.out]; simpa using HNEW.out, by simp, HBN.out⟩⟩
  case round =>
    obtain ⟨As, Bs, ks, hgg, HA, rfl, HS⟩ := hrel
    obtain ⟨j, hj⟩ : ∃ j, j = As.length := ⟨_, rfl⟩
    rw [← hj] at HS ⊢
    have HJ := hideT' hj
    clear hj
    obtain ⟨hks, hR, hTk, hB⟩ := HS.out
    have hkl : ks.length = j := by
      have := congrArg List.length hks
      simp only [List.length_map] at this
      rw [HJ.out, this]
    have hTr : TrIn wr (fun x => P x ∧ x < w.heap.size) t b := TrIn.keep (w := w) hB.size (fun x hx hl => hB.block x hl) (fun x h hl => ⟨h, hl⟩) HT.out
    have hGw : G < wr.heap.size := hR.lt
    cases Bs with
    | nil =>
      have hjm : j = q := by rw [HJ.out, HQ.out, HA.out]; simp
      have hnl : ¬ (j : Int) < (q : Int) := by omega
      have hka : t.kids.map (fun s => cof s (m + t.lams)) = (ks.map Prod.snd).map some := by rw [HA.out, List.append_nil]; exact hks
      have hcell : ∀ (i : Nat) (p : Nat × CB.Lm), ks[i]? = some p → wr.cell? ⟨G, i, none⟩ = some (.pointer (some ⟨p.1, 0, none⟩)) := by
        intro i p hi
        have hil : i < ks.length := (List.getElem?_eq_some_iff.1 hi).1
        have := hR.cell (c := 1) CB.ptrL_len i 0 (by rw [List.length_append, List.length_map]; omega) (by decide)
        rw [Nat.mul_one, Nat.add_zero] at this
        rw [this]
        have e : (ks.map (fun p : Nat × CB.Lm => some p.1) ++ List.replicate (q - j) none).getD i default = some p.1 := by
          rw [List.getD, List.getElem?_append_left (by rw [List.length_map]; exact hil), List.getElem?_map, hi]
          rfl
        rw [e]; rfl
      have e0 : wr.cell? ⟨b, 0, none⟩ = some (.int .i64 kd) := by rw [hB.cell (p := ⟨b, 0, none⟩) hbl]; exact k0
      have HBB := hideT' hB
      have hbr : b < wr.heap.size := by have := hB.size; omega
      have hGs : w.heap.size ≤ G := by rw [HG.out]; exact Nat.le_refl _
      cases t with
      | var n => exact absurd HKN.out (by simpa [Lm.kd] using hkv)
      | lam s =>
        have hkl1 : ks.length = 1 := by rw [hkl, hjm, HQ.out]; rfl
        obtain ⟨p, hp⟩ : ∃ p, ks = [p] := List.length_eq_one_iff.1 hkl1
        obtain ⟨b1, c1⟩ := p
        subst hp
        clear hkl1
        have hq1 : q = 1 := by rw [← hjm, ← hkl]; rfl
        have hk2 : kd = 2 := HKN.out
        subst hk2
        subst hq1
        subst hjm
        have c0 := hcell 0 (b1, c1) rfl
        have hc1 : cof s (m + 1) = some c1 := by simpa [Lm.kids, Lm.lams] using hka
        have HE : Hid (cof (.lam s) m = chkC (c1.abs (100 + m))) := by unfold Hid; rw [cof, hc1]
        have hsz1 := cof_sz hc1
        have hsz2 := CB.Lm.abs_sz (100 + m) c1
        have HC := hideT' (CB.abstracted_all (100 + m) c1.sz c1 (Nat.le_refl _) b1 _ wr (hTk (b1, c1) (by simp)) (by omega))
        obtain ⟨X, hX⟩ : ∃ X, X = c1.abs (100 + m) := ⟨_, rfl⟩
        rw [← hX] at HC HE hsz2
        have HSX : Hid (X.sz ≤ 1000000) := by unfold Hid; omega
        clear hks hR hTk hB hTr hkl HS k0 hpc hgg hka hc1 hcell hX hsz1 hsz2
        have HGS := hideT' hGs
        clear hm hkv hkv2 hnl hq2 hGs hbl
        go_wp2_with fail
        refine HC.out.mono ?_
        rintro e w2 ⟨⟨b2, rfl, hT2⟩, hB2⟩
        have HT2 : Hid (CB.TrIn w2 (fun x => w.heap.size ≤ x) X b2) := CB.TrIn.mono (fun x hx _ => by have := HGS.out; rcases hx with hx | hx <;> omega) hT2
        have HB2 : Hid (Below w.heap.size w w2) := HBB.out.trans (hB2.mono HBB.out.size)
        have HC3 := hideT' (CB.isGood_any X b2 _ w2 HT2.out HSX.out)
        obtain ⟨gd, hgd⟩ : ∃ gd, gd = X.good := ⟨_, rfl⟩
        rw [← hgd] at HC3
        have HGD := hideT' hgd
        clear hT2 hB2 hgd
        go_wp2_with fail
        refine HC3.out.mono ?_
        rintro e w3 ⟨rfl, hB3⟩
        have HF : Hid (CB.TrIn w3 (fun x => w.heap.size ≤ x) X b2 ∧ Below w.heap.size w w3) := ⟨CB.TrIn.below hB3 HT2.out, HB2.out.trans (hB3.mono HB2.out.size)⟩
        clear hB3
        go_wp2
        go_ret2
        refine ⟨?_, HF.out.2⟩
        rw [HE.out]
        exact CoAns.chk HGD.out HF.out.1
      | app s s2 =>
        match ks, hkl, hka, hTk, hcell with
        | [(b1, c1), (b2, c2)], hkl, hka, hTk, hcell =>
          have hq1 : q = 2 := by rw [← hjm, ← hkl]; rfl
          have hk2 : kd = 3 := HKN.out
          subst hk2
          subst hq1
          subst hjm
          have g0 := hcell 0 (b1, c1) rfl
          have g1 := hcell 1 (b2, c2) rfl
          have hc1 : cof s m = some c1 ∧ cof s2 m = some c2 := by simpa [Lm.kids, Lm.lams] using hka
          have HE : Hid (cof (.app s s2) m = chkC (.app c1 c2)) := by unfold Hid; rw [cof, hc1.1]; simp only; rw [hc1.2]
          have hsz1 := cof_sz hc1.1
          have hsz2 := cof_sz hc1.2
          have hap : (CB.Lm.app c1 c2).sz ≤ 1000000 := by simp only [CB.Lm.sz]; omega
          have HC : Hid (∀ w', Below wr.heap.size wr w' → _) := fun w' hw' => CB.applied_any c1 c2 b1 b2 (fun x => G < x) w' (CB.TrIn.below hw' (hTk (b1, c1) (by simp))) (CB.TrIn.below hw' (hTk (b2, c2) (by simp))) (by omega) (by omega)
          clear hks hR hTk hB hTr hkl HS k0 hpc hgg hka hc1 hcell hsz1 hsz2
          go_wp2_with fail
          refine held_begin (fun w' => ∀ x, x < wr.heap.size → w'.heap[x]? = wr.heap[x]?) (by kernel_rfl) ?_
          have hS : ∀ x, x < wr.heap.size → wr.drew.heap[x]? = wr.heap[x]? := fun _ _ => rfl
          refine held_valS 0 (some 69) rfl rfl (by kernel_rfl) (by kernel_rfl) (by kernel_rfl) noPanic_put rfl (.slice (some ⟨G, 0, none⟩) 2 2) (fun _ _ => by go_simp) hS ?_
          simp only [Act.put, List.setIfInBounds_toArray, List.set_cons_zero, List.set_cons_succ]
          refine held_valS 1 (some 70) rfl rfl (by kernel_rfl) (by kernel_rfl) (by kernel_rfl) noPanic_put rfl (.pointer (some ⟨G, 0, none⟩)) (fun _ _ => by go_simp) hS ?_
          simp only [Act.put, List.setIfInBounds_toArray, List.set_cons_zero, List.set_cons_succ]
          refine held_valS 2 (some 71) rfl rfl (by kernel_rfl) (by kernel_rfl) (by kernel_rfl) noPanic_put rfl (.pointer (some ⟨b1, 0, none⟩)) (fun w' h => by have q := ((World.cell?_of_block (w := wr) (a := ⟨G, 0, none⟩) (h (G) (by omega))).trans g0); go_simp) hS ?_
          simp only [Act.put, List.setIfInBounds_toArray, List.set_cons_zero, List.set_cons_succ]
          refine held_valS 3 (some 72) rfl rfl (by kernel_rfl) (by kernel_rfl) (by kernel_rfl) noPanic_put rfl (.slice (some ⟨G, 0, none⟩) 2 2) (fun _ _ => by go_simp) hS ?_
          simp only [Act.put, List.setIfInBounds_toArray, List.set_cons_zero, List.set_cons_succ]
          refine held_valS 4 (some 73) rfl rfl (by kernel_rfl) (by kernel_rfl) (by kernel_rfl) noPanic_put rfl (.pointer (some ⟨G, 1, none⟩)) (fun _ _ => by go_simp) hS ?_
          simp only [Act.put, List.setIfInBounds_toArray, List.set_cons_zero, List.set_cons_succ]
          refine held_valS 5 (some 74) rfl rfl (by kernel_rfl) (by kernel_rfl) (by kernel_rfl) noPanic_put rfl (.pointer (some ⟨b2, 0, none⟩)) (fun w' h => by have q := ((World.cell?_of_block (w := wr) (a := ⟨G, 1, none⟩) (h (G) (by omega))).trans g1); go_simp) hS ?_
          simp only [Act.put, List.setIfInBounds_toArray, List.set_cons_zero, List.set_cons_succ]
          refine held_call 6 (some 75) (by kernel_rfl) rfl rfl rfl 78 #[.pointer (some ⟨b1, 0, none⟩), .pointer (some ⟨b2, 0, none⟩)] (by go_simp) _ (HC.out wr.drew (Below.refl _ _).drew) ?_
          rintro e w5 ⟨⟨b5, rfl, hT5⟩, hw5⟩
          have hw5 : Below wr.heap.size wr w5 := ⟨hw5.os, hw5.tape, hw5.output, hw5.size, hw5.block⟩
          have hT5 : CB.TrIn w5 (fun x => G < x ∨ wr.heap.size ≤ x) (.app c1 c2) b5 := hT5
          have hS5 : ∀ x, x < wr.heap.size → w5.heap[x]? = wr.heap[x]? := fun x hx => hw5.block x hx
          refine ⟨_, rfl, hS5, ?_⟩
          simp only [Act.put, List.setIfInBounds_toArray, List.set_cons_zero, List.set_cons_succ]
          refine held_assign 7 (some 11) (by kernel_rfl) rfl rfl _ rfl rfl (.pointer (some ⟨b5, 0, none⟩)) rfl hS5 ?_
          simp only [Act.put, List.setIfInBounds_toArray, List.set_cons_zero, List.set_cons_succ]
          refine wpAnyH_done (by kernel_rfl) ?_ _
          refine NoPanic.normal ?_
          have HT2 : Hid (CB.TrIn w5 (fun x => w.heap.size ≤ x) (.app c1 c2) b5) := CB.TrIn.mono (fun x hx _ => by rcases hx with hx | hx <;> omega) hT5
          have HB2 : Hid (Below w.heap.size w w5) := HBB.out.trans (hw5.mono HBB.out.size)
          have HC3 := hideT' (CB.isGood_any (.app c1 c2) b5 _ w5 HT2.out hap)
          obtain ⟨gd, hgd⟩ : ∃ gd, gd = (CB.Lm.app c1 c2).good := ⟨_, rfl⟩
          rw [← hgd] at HC3
          have HGD := hideT' hgd
          clear hT5 hw5 hgd hS hS5 hap
          go_wp2_with fail
          refine HC3.out.mono ?_
          rintro e w3 ⟨rfl, hB3⟩
          have HF : Hid (CB.TrIn w3 (fun x => w.heap.size ≤ x) (.app c1 c2) b5 ∧ Below w.heap.size w w3) := ⟨CB.TrIn.below hB3 HT2.out, HB2.out.trans (hB3.mono HB2.out.size)⟩
          clear hB3
          go_wp2
          go_ret2
          refine ⟨?_, HF.out.2⟩
          rw [HE.out]
          exact CoAns.chk HGD.out HF.out.1
        | [], hkl, hka, hTk, hcell => simp [Lm.kids] at hka
        | [_], hkl, hka, hTk, hcell => simp [Lm.kids] at hka
        | _ :: _ :: _ :: _, hkl, hka, hTk, hcell => simp [Lm.kids] at hka
    | cons T Bs =>
      have hil : (j : Int) < (q : Int) := by rw [HQ.out, HA.out, List.length_append, ← HJ.out]; simp; omega
      have hkj : t.kids[j]? = some T := by rw [HA.out, HJ.out]; simp
      have hTm : T ∈ t.kids := List.mem_of_getElem? hkj
      obtain ⟨o', c', hpc', hkid⟩ := hTr.parts
      have hoo : o' = o := by
        have h1 : wr.cell? ⟨b, 3, none⟩ = w.cell? ⟨b, 3, none⟩ := hB.cell (p := ⟨b, 3, none⟩) hbl
        rw [hpc', hpc] at h1
        injection h1 with h1
        injection h1 with h1
      subst hoo
      obtain ⟨g, b1, ho', hg, _, hcb1, hT1⟩ := hkid j T hkj
      subst ho'
      have hTs := Lm.kids_lt hTm
      have hTd := dp_part hTm
      have hMD := HMD.out
      have HCALL := hideT' (HIH.out T.sz (by have := HTN.out; omega) T (Nat.le_refl _) b1 _ wr (m + t.lams) hT1 (ok_part HOK.out hTm) (by omega))
      have HLM := hideT' (lambdasOf_any t b _ wr hTr)
      have hcast : ((m + t.lams : Nat) : Int) = (m : Int) + (t.lams : Int) := by omega
      rw [hcast] at HCALL
      obtain ⟨lm, hlm⟩ : ∃ lm, lm = t.lams := ⟨_, rfl⟩
      rw [← hlm] at HCALL HLM
      have hlm1 : (lm : Int) ≤ 1000 := by omega
      have HLM2 := hideT' hlm
      have HSS := hideT' (And.intro hks (And.intro hTk (And.intro hB (And.intro hkl hTm))))
      have HR := hideT' hR
      clear hks hTk hB hTr hpc' hkid hT1 hkj hTm hR HS hkl hcast hlm hTd hMD
      go_wp2_with fail
      refine HLM.out.mono ?_
      rintro e w4 ⟨rfl, hw4⟩
      rw [hw4]
      clear hw4
      go_wp2_with fail
      refine HCALL.out.mono ?_
      rintro e w5 ⟨hans, hB5⟩
      obtain ⟨hks, hTk, hB, hkl, hTm⟩ := HSS.out
      rw [HLM2.out] at hans
      cases hdv : cof T (m + t.lams) with
      | none =>
        rw [hdv] at hans
        obtain ⟨p5, rfl⟩ := hans
        have HE : Hid (cof t m = none) := cof_none hTm hdv
        have HF : Hid (Below w.heap.size w w5) := hB.trans (hB5.mono hB.size)
        clear hdv hks hTk hB hkl hTm hB5
        go_wp2
        go_ret2
        exact ⟨by rw [HE.out]; exact ⟨_, rfl⟩, HF.out⟩
      | some D =>
        rw [hdv] at hans
        obtain ⟨b', rfl, hT5⟩ := hans
        have hR5 : RecAt w5 G 68 CB.ptrL (ks.map (fun p => some p.1) ++ List.replicate (q - j) none) := HR.out.below hB5 hGw
        have HT5 := hideT' hT5
        have HB5 := hideT' hB5
        have HDV := hideT' hdv
        have HSL : Hid (j < (ks.map (fun p : Nat × CB.Lm => some p.1) ++ List.replicate (q - j) none).length) := by unfold Hid; rw [List.length_append, List.length_map, List.length_replicate, hkl]; omega
        clear hT5 hB5 hks hTk hB hkl hTm hdv
        go_wp2_with (refine store_rec1 rfl 68 _ _ rfl rfl (fun b : Option Nat => .pointer (b.map fun b => ⟨b, 0, none⟩)) (fun _ => rfl) CB.one_ptree G j (some b') rfl rfl _ hR5 HSL.out ?_; intro w6 hR6 hg6 hs6; have HG6 := hideT' hg6; have HR6 := hideT' hR6; clear hg6 hR6)
        obtain ⟨hks, hTk, hB, hkl, hTm⟩ := HSS.out
        have HEND : Hid ((As ++ [T]).map (fun s => cof s (m + t.lams)) = ((ks ++ [(b', D)]).map Prod.snd).map some ∧ RecAt w6 G 68 CB.ptrL ((ks ++ [(b', D)]).map (fun p => some p.1) ++ List.replicate (q - (As ++ [T]).length) none) ∧ (∀ p ∈ ks ++ [(b', D)], CB.TrIn w6 (fun x => G < x) p.2 p.1) ∧ Below w.heap.size w w6) := by
          have hGw0 : ¬ (G < G) := Nat.lt_irrefl _
          refine ⟨by rw [List.map_append, hks]; simp [HDV.out], ?_, fun p hp => ?_, ?_⟩
          · have e1 : (ks.map (fun p : Nat × CB.Lm => some p.1) ++ List.replicate (q - j) none).set j (some b') = (ks ++ [(b', D)]).map (fun p : Nat × CB.Lm => some p.1) ++ List.replicate (q - (As ++ [T]).length) none := by
              rw [List.set_append_right _ _ (by rw [List.length_map, hkl]; exact Nat.le_refl _), List.length_map, hkl, Nat.sub_self, List.length_append, ← HJ.out, List.length_singleton]
              obtain ⟨y, hy⟩ : ∃ y, q - j = y + 1 := ⟨q - j - 1, by omega⟩
              rw [hy, show q - (j + 1) = y by omega, List.replicate_succ, List.set_cons_zero, List.map_append]
              simp
            have h3 := HR6.out
            rw [e1] at h3
            exact h3
          · rcases List.mem_append.1 hp with hp | hp
            · exact CB.TrIn.grown HG6.out hGw0 (CB.TrIn.below HB5.out (hTk p hp))
            · rw [List.mem_singleton] at hp
              subst hp
              exact CB.TrIn.grown HG6.out hGw0 (CB.TrIn.mono (fun x hx _ => Nat.lt_of_lt_of_le hGw hx) HT5.out)
          · exact (hB.trans (HB5.out.mono hB.size)).grown HG6.out (by have := hB.size; have := HB5.out.size; omega) (by intro k hk; cases hk; rw [HG.out]; exact Nat.le_refl _)
        have HA2 : Hid (t.kids = (As ++ [T]) ++ Bs) := by unfold Hid; rw [HA.out]; simp
        clear hks hTk hB hkl hTm
        go_roundg Bs.length
        case measure => first | omega | (rw [hgg]; simp)
        case rel => exact ⟨As ++ [T], Bs, ks ++ [(b', D)], rfl, HA2, by rw [List.length_append, ← HJ.out]; go_num, HEND⟩
theorem combOf_all : ∀ N, CoC N := by
  intro N
  induction N using Nat.strongRecOn with
  | _ N IH => exact combOf_step N IH
end Go.Proofs.Ytnnhedncdpfiaaa

/-
  What ldOf of the model answers.
-/
namespace Go.Proofs.Ytnnhedncdpfiaaa
open Go.RowKit BL
set_option linter.unusedVariables false

/-- The answer of ldOf. -/
def LcoAns (N : Nat) (r : Option CB.Lm) (e : Ending) (w' : World) : Prop := match r with
  | none => ∃ k n o m c, e = .returned (.tuple #[.agg (CB.lcC k n (.slice o m c)), .bool false])
  | some s => ∃ z, e = .returned (.tuple #[.agg (CB.lcC s.kd s.nm z), .bool true]) ∧ CB.LcIn w' (fun x => N ≤ x) s z
theorem LcoAns.chk {N : Nat} {c : CB.Lm} {w' : World} {g : Bool} {k n : Int} {o : Option Addr} {l d : Nat} (hg : g = c.good) (hk : c.kd = k) (hn : c.nm = n) (hT : CB.LcIn w' (fun x => N ≤ x) c (.slice o l d)) : LcoAns N (chkC c) (.returned (.tuple #[.agg (CB.lcC k n (.slice o l d)), .bool g])) w' := by
  subst hg
  subst hk
  subst hn
  unfold chkC
  cases c.good with
  | true => exact ⟨_, rfl, hT⟩
  | false => exact ⟨_, _, _, _, _, rfl⟩
def LcoC (N : Nat) : Prop := ∀ (t : Lm), t.sz ≤ N → ∀ (z : Value) (P : Nat → Prop) (w : World) (m : Nat), LcIn w P t z → t.ok = true → m + t.dp ≤ 1000 →
    Calls Try.prog 64 #[.agg (lcC t.kd t.nm z), .int .i64 (m : Int)] w fun e w' => LcoAns w.heap.size (cof t m) e w' ∧ Below w.heap.size w w'
set_option maxHeartbeats 8000000 in
set_option maxRecDepth 100000 in
theorem ldOf_step (N : Nat) (IH : ∀ n, n < N → LcoC n) : LcoC N := by
  intro t ht z P w m hz hok hmd
  have hz0 := CB.zero_lcT.1
  obtain ⟨oz, cz, hzz⟩ := hz.form
  subst hzz
  have hm' : (m : Int) ≤ 1000 := by omega
  have hm0 : (0 : Int) ≤ (m : Int) := by omega
  obtain ⟨W, hWd⟩ : ∃ W, W = (w.alloc (.cells #[.int .i64 t.kd, .int .i64 t.nm, .slice oz t.kids.length cz] 93)).alloc (.cells #[.int .i64 0, .int .i64 0, .slice none 0 0] 75) := ⟨_, rfl⟩
  have hWs : W.heap.size = w.heap.size + 2 := by rw [hWd]; simp
  have hBW : Below w.heap.size w W := by rw [hWd]; exact ((Below.refl _ _).alloc (Nat.le_refl _) _).alloc (by simp) _
  have hR0 : RowAt W w.heap.size 93 #[.int .i64 t.kd, .int .i64 t.nm, .slice oz t.kids.length cz] := by rw [hWd]; exact RowAt.old (RowAt.new _ _ _) _
  have hR1 : RowAt W (w.heap.size + 1) 75 #[.int .i64 0, .int .i64 0, .slice none 0 0] := by
    rw [hWd]
    have := RowAt.new (w.alloc (.cells #[.int .i64 t.kd, .int .i64 t.nm, .slice oz t.kids.length cz] 93)) 75 #[.int .i64 0, .int .i64 0, .slice none 0 0]
    rwa [World.size_alloc] at this
  have hzW := LcIn.keep (w := w) hBW.size (fun y _ hl => hBW.block y hl) (fun _ h _ => h) hz
  have HIH := hideT' IH
  have HWS := hideT' hWs
  cases t with
  | var n =>
    simp only [Lm.ok, Bool.and_eq_true, decide_eq_true_eq] at hok
    obtain ⟨hn1, hn2⟩ := hok
    simp only [Lm.kids, List.length_nil, Lm.kd, Lm.nm] at hR0 hWd ⊢
    have c1 : W.cell? ⟨w.heap.size, 1, none⟩ = some (.int .i64 n) := by rw [cell_of_row _ _ _ _ _ _ hR0]; rfl
    have HW := hideT' (And.intro hBW hR1)
    clear IH ht hmd hz hzW
    unfold lcC
    by_cases h : (m : Int) ≤ n
    · have hw2 : IntKind.i64.wrap (n - m) = n - m := by rw [IntKind.wrap_i64]; omega
      have HE : Hid (cof (.var n) m = some (.var (.v (n - m)))) := by unfold Hid; rw [cof, cofV, if_pos h]
      clear hR0 hBW
      go_enter Try.func64, Try.ntmps64
      go_wp2_with fail
      rw [← hWd]
      refine held_begin (fun w' => w'.cell? ⟨w.heap.size, 1, none⟩ = some (.int .i64 n)) (by kernel_rfl) ?_
      have hS : W.drew.cell? ⟨w.heap.size, 1, none⟩ = some (.int .i64 n) := c1
      refine held_valS 0 (some 26) rfl rfl (by kernel_rfl) (by kernel_rfl) (by kernel_rfl) noPanic_put rfl (.pointer (some ⟨w.heap.size, 1, none⟩)) (fun _ _ => by go_simp) hS ?_
      simp only [Act.put, List.setIfInBounds_toArray, List.set_cons_zero, List.set_cons_succ]
      refine held_valS 1 (some 27) rfl rfl (by kernel_rfl) (by kernel_rfl) (by kernel_rfl) noPanic_put rfl (.int .i64 n) (fun w' h => by have c := h; go_simp) hS ?_
      simp only [Act.put, List.setIfInBounds_toArray, List.set_cons_zero, List.set_cons_succ]
      refine held_valS 2 (some 28) rfl rfl (by kernel_rfl) (by kernel_rfl) (by kernel_rfl) noPanic_put rfl (.int .i64 (m : Int)) (fun _ _ => by go_simp) hS ?_
      simp only [Act.put, List.setIfInBounds_toArray, List.set_cons_zero, List.set_cons_succ]
      refine held_valS 3 (some 29) rfl rfl (by kernel_rfl) (by kernel_rfl) (by kernel_rfl) noPanic_put rfl (.int .i64 (n - m)) (fun _ _ => by go_simp) hS ?_
      simp only [Act.put, List.setIfInBounds_toArray, List.set_cons_zero, List.set_cons_succ]
      refine held_valS 4 (some 30) rfl rfl (by kernel_rfl) (by kernel_rfl) (by kernel_rfl) noPanic_put rfl (.agg (CB.lcC 1 (n - m) (.slice none 0 0))) (fun w' h => by unfold CB.lcC; go_simp) hS ?_
      simp only [Act.put, List.setIfInBounds_toArray, List.set_cons_zero, List.set_cons_succ]
      refine held_valS 5 (some 31) rfl rfl (by kernel_rfl) (by kernel_rfl) (by kernel_rfl) noPanic_put rfl (.pointer (some ⟨w.heap.size, 1, none⟩)) (fun _ _ => by go_simp) hS ?_
      simp only [Act.put, List.setIfInBounds_toArray, List.set_cons_zero, List.set_cons_succ]
      refine held_valS 6 (some 32) rfl rfl (by kernel_rfl) (by kernel_rfl) (by kernel_rfl) noPanic_put rfl (.int .i64 n) (fun w' h => by have c := h; go_simp) hS ?_
      simp only [Act.put, List.setIfInBounds_toArray, List.set_cons_zero, List.set_cons_succ]
      refine held_valS 7 (some 33) rfl rfl (by kernel_rfl) (by kernel_rfl) (by kernel_rfl) noPanic_put rfl (.int .i64 (m : Int)) (fun _ _ => by go_simp) hS ?_
      simp only [Act.put, List.setIfInBounds_toArray, List.set_cons_zero, List.set_cons_succ]
      refine held_valS 8 (some 34) rfl rfl (by kernel_rfl) (by kernel_rfl) (by kernel_rfl) noPanic_put rfl (.int .i64 (n - m)) (fun _ _ => by go_simp) hS ?_
      simp only [Act.put, List.setIfInBounds_toArray, List.set_cons_zero, List.set_cons_succ]
      refine held_valS 9 (some 35) rfl rfl (by kernel_rfl) (by kernel_rfl) (by kernel_rfl) noPanic_put rfl (.bool true) (fun w' h => by have hlt : n - m < 100 := (by omega); go_simp) hS ?_
      simp only [Act.put, List.setIfInBounds_toArray, List.set_cons_zero, List.set_cons_succ]
      have hR5 : RowAt W.drew (w.heap.size + 1) 75 #[.int .i64 0, .int .i64 0, .slice none 0 0] := hR1
      refine held_one 10 (by kernel_rfl) rfl rfl ?_
      intro K hK
      refine store_3_wp 75 (.tmp 4) (.tmp 30) rfl rfl CB.zero_lcT.2 (w.heap.size + 1) (CB.lcC 1 (n - m) (.slice none 0 0)) rfl (CB.lcC_one _ _ _ rfl) rfl rfl #[.int .i64 0, .int .i64 0, .slice none 0 0] rfl hR5 ?_
      intro w6 hR6 hg6 hs6
      have hg6 : W.grownBy w6 (some (w.heap.size + 1)) := ⟨hg6.os, hg6.tape, hg6.output, hg6.size, hg6.block⟩
      have hS6 : w6.cell? ⟨w.heap.size, 1, none⟩ = some (.int .i64 n) := by rw [World.cell?_of_block (w := W) (a := ⟨w.heap.size, 1, none⟩) (hg6.block _ (by show w.heap.size < W.heap.size; omega) (by intro e; injection e with e; have e : w.heap.size = w.heap.size + 1 := e; omega))]; exact c1
      refine hK.out _ _ hS6 ?_
      refine held_assign 11 (some 5) (by kernel_rfl) rfl rfl _ rfl rfl (.bool true) rfl hS6 ?_
      simp only [Act.put, List.setIfInBounds_toArray, List.set_cons_zero, List.set_cons_succ]
      refine wpAnyH_done (by kernel_rfl) ?_ _
      refine NoPanic.normal ?_
      have HF := hideT' (And.intro hR6 (HW.out.1.grown hg6 (by omega) (by intro k hk; cases hk; omega)))
      clear hK hS hS6 hg6 hR6
      go_wp2
      refine bodyPost_ret (v := .tuple #[.agg (CB.lcC 1 (n - m) (.slice none 0 0)), .bool true]) (CB.res_lc_tmp Try.results64 _ _ (w.heap.size + 1) 1 (n - m) (.slice none 0 0) (.bool true) rfl rfl HF.out.1) rfl ⟨?_, HF.out.2⟩
      rw [HE.out]
      exact ⟨.slice none 0 0, rfl, none, 0, rfl⟩
    · have HE : Hid (cof (.var n) m = some (.var (.v (100 + m - 1 - n)))) := by unfold Hid; rw [cof, cofV, if_neg h]
      clear hR0 hBW hWd c1 hR1
      go_enter Try.func64, Try.ntmps64
      go_wp2
      have hR5 : RowAt ((w.alloc (.cells #[.int .i64 1, .int .i64 n, .slice oz 0 cz] 93)).alloc (.cells #[.int .i64 1, .int .i64 (100 + m - 1 - n), .slice none 0 0] 75)) (w.heap.size + 1) 75 (CB.lcC 1 (100 + m - 1 - n) (.slice none 0 0)) := by
        have := RowAt.new (w.alloc (.cells #[.int .i64 1, .int .i64 n, .slice oz 0 cz] 93)) 75 (CB.lcC 1 (100 + m - 1 - n) (.slice none 0 0))
        rwa [World.size_alloc] at this
      refine bodyPost_ret (v := .tuple #[.agg (CB.lcC 1 (100 + m - 1 - n) (.slice none 0 0)), .bool true]) (CB.res_lc_tmp Try.results64 _ _ (w.heap.size + 1) 1 (100 + m - 1 - n) (.slice none 0 0) (.bool true) rfl rfl hR5) rfl ⟨?_, ((Below.refl _ _).alloc (Nat.le_refl _) _).alloc (by simp) _⟩
      rw [HE.out]
      exact ⟨.slice none 0 0, rfl, none, 0, rfl⟩
  | lam s =>
    simp only [Lm.kids, List.length_cons, List.length_nil, Nat.zero_add, Lm.kd, Lm.nm] at hR0 hWd hz hzW ⊢
    obtain ⟨g, c, z1, hsl, hg, ⟨c0, c1, c2⟩, hz1⟩ := hz
    obtain ⟨oz1, cz1, hzz1⟩ := hz1.form
    subst hzz1
    injection hsl with hsl1 hsl2 hsl3
    subst hsl1
    subst hsl3
    have hgl := hg.1
    have hz1W := LcIn.keep (w := w) hBW.size (fun y _ hl => hBW.block y hl) (fun _ h _ => h) hz1
    have hsz : s.sz < N := by simp only [Lm.sz] at ht; omega
    have hdp : m + 1 + s.dp ≤ 1000 := by simp only [Lm.dp] at hmd; omega
    have HC1 := hideT' (IH s.sz hsz s (Nat.le_refl _) (.slice oz1 s.kids.length cz1) P W (m + 1) hz1W hok hdp)
    have hcast : ((m + 1 : Nat) : Int) = (m : Int) + 1 := by omega
    rw [hcast] at HC1
    have HW := hideT' (And.intro hBW hR1)
    obtain ⟨k1, hk1⟩ : ∃ k1, k1 = s.kd := ⟨_, rfl⟩
    obtain ⟨n1, hn1⟩ : ∃ n1, n1 = s.nm := ⟨_, rfl⟩
    obtain ⟨l1, hl1⟩ : ∃ l1, l1 = s.kids.length := ⟨_, rfl⟩
    rw [← hk1] at c0 HC1
    rw [← hn1] at c1 HC1
    rw [← hl1] at c2 HC1
    clear IH ht hmd hzW hz1 hz1W hR0 hR1 hBW hok hg hsz hdp hcast hk1 hn1 hl1
    unfold lcC at HC1 ⊢
    go_enter Try.func64, Try.ntmps64
    go_wp2_with fail
    rw [← hWd]
    refine HC1.out.mono ?_
    rintro e w1 ⟨hans, hB1⟩
    have hs1 := hB1.size
    have HB1 : Hid (Below w.heap.size w w1) := HW.out.1.trans (hB1.mono HW.out.1.size)
    have HR1 : Hid (RowAt w1 (w.heap.size + 1) 75 #[.int .i64 0, .int .i64 0, .slice none 0 0]) := HW.out.2.below hB1 (by omega)
    clear hB1 c0 c1 c2 hWd
    cases hdv : cof s (m + 1) with
    | none =>
      rw [hdv] at hans
      obtain ⟨k9, n9, o9, l9, c9, rfl⟩ := hans
      have HE : Hid (cof (.lam s) m = none) := by unfold Hid; rw [cof, hdv]
      have HA : Hid (RowAt (w1.alloc (.cells #[.int .i64 k9, .int .i64 n9, .slice o9 l9 c9] 75)) (w.heap.size + 1) 75 #[.int .i64 0, .int .i64 0, .slice none 0 0]) := RowAt.old HR1.out _
      unfold CB.lcC
      clear hdv
      go_wp2_with (refine store_3 rfl 75 _ _ rfl rfl CB.zero_lcT.2 (w.heap.size + 1) (CB.lcC k9 n9 (.slice o9 l9 c9)) rfl (CB.lcC_one _ _ _ rfl) rfl rfl _ rfl HA.out ?_; intro w9 hR9 hg9 hs9)
      have hb1 := HB1.out.size
      refine bodyPost_ret (v := .tuple #[.agg (CB.lcC k9 n9 (.slice o9 l9 c9)), .bool false]) (CB.res_lc_tmp Try.results64 _ _ (w.heap.size + 1) k9 n9 (.slice o9 l9 c9) (.bool false) rfl rfl hR9) rfl ⟨?_, (HB1.out.alloc hb1 _).grown hg9 (by simp; omega) (by intro k hk; cases hk; omega)⟩
      rw [HE.out]
      exact ⟨_, _, _, _, _, rfl⟩
    | some C =>
      rw [hdv] at hans
      obtain ⟨z2, rfl, hz2⟩ := hans
      obtain ⟨o2, d2, hzz2⟩ := hz2.form
      subst hzz2
      obtain ⟨w2, hw2⟩ : ∃ w2, w2 = w1.alloc (.cells #[.int .i64 C.kd, .int .i64 C.nm, .slice o2 C.kids.length d2] 75) := ⟨_, rfl⟩
      have hB2 : Below w1.heap.size w1 w2 := by rw [hw2]; exact (Below.refl _ _).alloc (Nat.le_refl _) _
      have HC2 := hideT' (CB.ldAbstract_all (100 + m) C.sz C (Nat.le_refl _) (.slice o2 C.kids.length d2) _ w2 (CB.LcIn.below hB2 hz2))
      have HB2 : Hid (Below w.heap.size w w2) := HB1.out.trans (hB2.mono HB1.out.size)
      have HR2 : Hid (RowAt w2 (w.heap.size + 1) 75 #[.int .i64 0, .int .i64 0, .slice none 0 0]) := HR1.out.below hB2 HR1.out.lt
      have hs2 := hB2.size
      obtain ⟨D, hD⟩ : ∃ D, D = C.abs (100 + m) := ⟨_, rfl⟩
      rw [← hD] at HC2
      have HE : Hid (cof (.lam s) m = chkC D) := by unfold Hid; rw [cof, hdv, hD]
      unfold CB.lcC at HC2 ⊢
      clear hdv hz2 hD hB2
      go_wp2_with fail
      rw [← hw2]
      refine HC2.out.mono ?_
      rintro e w3 ⟨⟨z3, rfl, hz3⟩, hB3⟩
      have hs3 := hB3.size
      have HB3 : Hid (Below w.heap.size w w3) := HB2.out.trans (hB3.mono HB2.out.size)
      have HR3 : Hid (RowAt w3 (w.heap.size + 1) 75 #[.int .i64 0, .int .i64 0, .slice none 0 0]) := HR2.out.below hB3 HR2.out.lt
      have HZ3 : Hid (CB.LcIn w3 (fun x => W.heap.size ≤ x) D z3) := CB.LcIn.mono (fun x hx _ => by rcases hx with hx | hx; exact hx; exact Nat.le_trans (by omega) hx) hz3
      clear hz3 hB3 hw2
      obtain ⟨o3, d3, hzz3⟩ := HZ3.out.form
      subst hzz3
      obtain ⟨w4, hw4⟩ : ∃ w4, w4 = w3.alloc (.cells #[.int .i64 D.kd, .int .i64 D.nm, .slice o3 D.kids.length d3] 75) := ⟨_, rfl⟩
      have hB4 : Below w3.heap.size w3 w4 := by rw [hw4]; exact (Below.refl _ _).alloc (Nat.le_refl _) _
      have hRD : RowAt w4 w3.heap.size 75 #[.int .i64 D.kd, .int .i64 D.nm, .slice o3 D.kids.length d3] := by rw [hw4]; exact RowAt.new _ _ _
      have HC4 := hideT' (CB.lcTold_any D (.slice o3 D.kids.length d3) _ w4 (CB.LcIn.below hB4 HZ3.out))
      have HZ4 : Hid (CB.LcIn w4 (fun x => W.heap.size ≤ x) D (.slice o3 D.kids.length d3)) := CB.LcIn.below hB4 HZ3.out
      have HR4 : Hid (RowAt w4 (w.heap.size + 1) 75 #[.int .i64 0, .int .i64 0, .slice none 0 0]) := HR3.out.below hB4 HR3.out.lt
      have HB4 : Hid (Below w.heap.size w w4) := HB3.out.trans (hB4.mono HB3.out.size)
      have hs4 := hB4.size
      obtain ⟨kx, hkx⟩ : ∃ kx, kx = D.kd := ⟨_, rfl⟩
      obtain ⟨nx, hnx⟩ : ∃ nx, nx = D.nm := ⟨_, rfl⟩
      obtain ⟨lx, hlx⟩ : ∃ lx, lx = D.kids.length := ⟨_, rfl⟩
      rw [← hkx, ← hnx, ← hlx]
      rw [← hkx, ← hnx, ← hlx] at HC4 hw4 hRD
      rw [← hlx] at HZ4
      have HX : Hid (D.kd = kx ∧ D.nm = nx) := ⟨hkx.symm, hnx.symm⟩
      have HRD := hideT' hRD
      unfold CB.lcC at HC4
      clear hB4 hkx hnx hlx hRD
      go_wp2_with fail
      rw [← hw4]
      refine HC4.out.mono ?_
      rintro e w6 ⟨hT6, hB6⟩
      obtain ⟨u6, rfl, _⟩ := hT6
      have hs6 := hB6.size
      have HR6 : Hid (RowAt w6 (w.heap.size + 1) 75 #[.int .i64 0, .int .i64 0, .slice none 0 0] ∧ RowAt w6 w3.heap.size 75 #[.int .i64 kx, .int .i64 nx, .slice o3 lx d3]) := ⟨HR4.out.below hB6 HR4.out.lt, HRD.out.below hB6 HRD.out.lt⟩
      have HZ6 : Hid (CB.LcIn w6 (fun x => W.heap.size ≤ x) D (.slice o3 lx d3)) := CB.LcIn.below hB6 HZ4.out
      have HB6 : Hid (Below w.heap.size w w6) := HB4.out.trans (hB6.mono HB4.out.size)
      obtain ⟨gd, hgd⟩ : ∃ gd, gd = D.good := ⟨_, rfl⟩
      rw [← hgd]
      have HGD := hideT' hgd
      clear hB6 hgd hw4
      go_wp2_with (first | (refine wpList_load_row rfl 75 _ rfl w3.heap.size rfl 75 #[.int .i64 kx, .int .i64 nx, .slice o3 lx d3] (0, 0) _ HR6.out.2 Try.underlying75 rfl CB.zero_lcT.2 ?_) | (refine store_3 rfl 75 _ _ rfl rfl CB.zero_lcT.2 (w.heap.size + 1) (CB.lcC kx nx (.slice o3 lx d3)) rfl (CB.lcC_one _ _ _ rfl) rfl rfl _ rfl HR6.out.1 ?_; intro w9 hR9 hg9 hs9))
      have hb6 := HB6.out.size
      have hws := HWS.out
      refine bodyPost_ret (v := .tuple #[.agg (CB.lcC kx nx (.slice o3 lx d3)), .bool gd]) (CB.res_lc_tmp Try.results64 _ _ (w.heap.size + 1) kx nx (.slice o3 lx d3) (.bool gd) rfl rfl hR9) rfl ⟨?_, HB6.out.grown hg9 hb6 (by intro k hk; cases hk; omega)⟩
      rw [HE.out]
      exact LcoAns.chk HGD.out HX.out.1 HX.out.2 (CB.LcIn.keep (w := w6) (by omega) (fun x hx hl => hg9.block x hl (by intro e; injection e with e; omega)) (fun x hx _ => by omega) HZ6.out)
  | app s s2 =>
    simp only [Lm.kids, List.length_cons, List.length_nil, Nat.zero_add, Nat.reduceAdd, Lm.kd, Lm.nm] at hR0 hWd hz hzW ⊢
    obtain ⟨g, c, z1, z2, hsl, hg, ⟨c0, c1, c2⟩, ⟨c3, c4, c5⟩, hz1, hz2⟩ := hz
    obtain ⟨oz1, cz1, hzz1⟩ := hz1.form
    subst hzz1
    obtain ⟨oz2, cz2, hzz2⟩ := hz2.form
    subst hzz2
    injection hsl with hsl1 hsl2 hsl3
    subst hsl1
    subst hsl3
    have hgl := hg.1
    have hz1W := LcIn.keep (w := w) hBW.size (fun y _ hl => hBW.block y hl) (fun _ h _ => h) hz1
    have HZ2W := hideT' (LcIn.keep (w := w) hBW.size (fun y _ hl => hBW.block y hl) (fun y h hl => (⟨h, hl⟩ : P y ∧ y < w.heap.size)) hz2)
    have hsz : s.sz < N ∧ s2.sz < N := by simp only [Lm.sz] at ht; omega
    have hdp : m + s.dp ≤ 1000 ∧ m + s2.dp ≤ 1000 := by simp only [Lm.dp] at hmd; omega
    simp only [Lm.ok, Bool.and_eq_true] at hok
    have HC1 := hideT' (IH s.sz hsz.1 s (Nat.le_refl _) (.slice oz1 s.kids.length cz1) P W m hz1W hok.1 hdp.1)
    have HI2 := hideT' (And.intro hsz.2 (And.intro hok.2 hdp.2))
    have HW := hideT' (And.intro hBW hR1)
    have HR0 := hideT' hR0
    obtain ⟨k1, hk1⟩ : ∃ k1, k1 = s.kd := ⟨_, rfl⟩
    obtain ⟨n1, hn1⟩ : ∃ n1, n1 = s.nm := ⟨_, rfl⟩
    obtain ⟨l1, hl1⟩ : ∃ l1, l1 = s.kids.length := ⟨_, rfl⟩
    rw [← hk1] at c0 HC1
    rw [← hn1] at c1 HC1
    rw [← hl1] at c2 HC1
    have HC5 := hideT' (And.intro c3 (And.intro c4 c5))
    clear IH ht hmd hzW hz1 hz1W hz2 hR0 hR1 hBW hok hg hsz hdp hk1 hn1 hl1 c3 c4 c5
    unfold lcC at HC1 ⊢
    go_enter Try.func64, Try.ntmps64
    go_wp2_with fail
    rw [← hWd]
    refine HC1.out.mono ?_
    rintro e w1 ⟨hans, hB1⟩
    have hs1 := hB1.size
    have HBB1 := hideT' hB1
    have HB1 : Hid (Below w.heap.size w w1) := HW.out.1.trans (hB1.mono HW.out.1.size)
    have HR1 : Hid (RowAt w1 (w.heap.size + 1) 75 #[.int .i64 0, .int .i64 0, .slice none 0 0]) := HW.out.2.below hB1 (by omega)
    clear hB1 c0 c1 c2 hWd
    cases hdv : cof s m with
    | none =>
      rw [hdv] at hans
      obtain ⟨k9, n9, o9, l9, c9, rfl⟩ := hans
      have HE : Hid (cof (.app s s2) m = none) := by unfold Hid; rw [cof, hdv]
      have HA : Hid (RowAt (w1.alloc (.cells #[.int .i64 k9, .int .i64 n9, .slice o9 l9 c9] 75)) (w.heap.size + 1) 75 #[.int .i64 0, .int .i64 0, .slice none 0 0]) := RowAt.old HR1.out _
      unfold CB.lcC
      clear hdv
      go_wp2_with (refine store_3 rfl 75 _ _ rfl rfl CB.zero_lcT.2 (w.heap.size + 1) (CB.lcC k9 n9 (.slice o9 l9 c9)) rfl (CB.lcC_one _ _ _ rfl) rfl rfl _ rfl HA.out ?_; intro w9 hR9 hg9 hs9)
      have hb1 := HB1.out.size
      refine bodyPost_ret (v := .tuple #[.agg (CB.lcC k9 n9 (.slice o9 l9 c9)), .bool false]) (CB.res_lc_tmp Try.results64 _ _ (w.heap.size + 1) k9 n9 (.slice o9 l9 c9) (.bool false) rfl rfl hR9) rfl ⟨?_, (HB1.out.alloc hb1 _).grown hg9 (by simp; omega) (by intro k hk; cases hk; omega)⟩
      rw [HE.out]
      exact ⟨_, _, _, _, _, rfl⟩
    | some A =>
      rw [hdv] at hans
      obtain ⟨za, rfl, hza⟩ := hans
      obtain ⟨oa, da, hzza⟩ := hza.form
      subst hzza
      obtain ⟨ka, hka⟩ : ∃ ka, ka = A.kd := ⟨_, rfl⟩
      obtain ⟨na, hna⟩ : ∃ na, na = A.nm := ⟨_, rfl⟩
      obtain ⟨la, hla⟩ : ∃ la, la = A.kids.length := ⟨_, rfl⟩
      rw [← hla] at hza
      rw [← hka, ← hna, ← hla]
      have HKA := hideT' (And.intro hka hna)
      obtain ⟨w2, hw2⟩ : ∃ w2, w2 = w1.alloc (.cells #[.int .i64 ka, .int .i64 na, .slice oa la da] 75) := ⟨_, rfl⟩
      have hB2 : Below w1.heap.size w1 w2 := by rw [hw2]; exact (Below.refl _ _).alloc (Nat.le_refl _) _
      have HBB2 : Hid (Below W.heap.size W w2) := HBB1.out.trans (hB2.mono HBB1.out.size)
      have HRA : Hid (RowAt w2 w1.heap.size 75 #[.int .i64 ka, .int .i64 na, .slice oa la da]) := by unfold Hid; rw [hw2]; exact RowAt.new _ _ _
      have HC2 := hideT' (HIH.out s2.sz HI2.out.1 s2 (Nat.le_refl _) (.slice oz2 s2.kids.length cz2) _ w2 m (LcIn.below HBB2.out HZ2W.out) HI2.out.2.1 HI2.out.2.2)
      have HB2 : Hid (Below w.heap.size w w2) := HB1.out.trans (hB2.mono HB1.out.size)
      have HR2 : Hid (RowAt w2 (w.heap.size + 1) 75 #[.int .i64 0, .int .i64 0, .slice none 0 0]) := HR1.out.below hB2 HR1.out.lt
      have HZA : Hid (CB.LcIn w2 (fun x => W.heap.size ≤ x) A (.slice oa la da)) := CB.LcIn.below hB2 hza
      have hs2 := hB2.size
      obtain ⟨k2, hk2⟩ : ∃ k2, k2 = s2.kd := ⟨_, rfl⟩
      obtain ⟨n2, hn2⟩ : ∃ n2, n2 = s2.nm := ⟨_, rfl⟩
      obtain ⟨l2, hl2⟩ : ∃ l2, l2 = s2.kids.length := ⟨_, rfl⟩
      rw [← hk2, ← hn2, ← hl2] at HC2 HC5
      have hwl : w.heap.size < w1.heap.size := by omega
      have hgl1 : g < w1.heap.size := by omega
      have t2 : w1.cell? ⟨w.heap.size, 2, none⟩ = some (.slice (some ⟨g, 0, none⟩) 2 cz) := by rw [HBB1.out.cell (p := ⟨w.heap.size, 2, none⟩) (by show w.heap.size < W.heap.size; omega), cell_of_row _ _ _ _ _ _ HR0.out]; rfl
      have p0 : w1.cell? ⟨g, 3, none⟩ = some (.int .i64 k2) := by rw [HB1.out.cell (p := ⟨g, 3, none⟩) hgl]; exact HC5.out.1
      have p1 : w1.cell? ⟨g, 4, none⟩ = some (.int .i64 n2) := by rw [HB1.out.cell (p := ⟨g, 4, none⟩) hgl]; exact HC5.out.2.1
      have p2 : w1.cell? ⟨g, 5, none⟩ = some (.slice oz2 l2 cz2) := by rw [HB1.out.cell (p := ⟨g, 5, none⟩) hgl]; exact HC5.out.2.2
      have HDV := hideT' hdv
      unfold CB.lcC lcC at *
      clear hdv hza hB2 hka hna hla hk2 hn2 hl2
      go_wp2_with fail
      rw [← hw2]
      refine HC2.out.mono ?_
      rintro e w3 ⟨hans, hB3⟩
      have hs3 := hB3.size
      have HB3 : Hid (Below w.heap.size w w3) := HB2.out.trans (hB3.mono HB2.out.size)
      have HR3 : Hid (RowAt w3 (w.heap.size + 1) 75 #[.int .i64 0, .int .i64 0, .slice none 0 0]) := HR2.out.below hB3 HR2.out.lt
      have HRA3 : Hid (RowAt w3 w1.heap.size 75 #[.int .i64 ka, .int .i64 na, .slice oa la da]) := HRA.out.below hB3 HRA.out.lt
      have HZA3 : Hid (CB.LcIn w3 (fun x => W.heap.size ≤ x) A (.slice oa la da)) := CB.LcIn.below hB3 HZA.out
      clear hB3 hw2 t2 p0 p1 p2
      cases hdv : cof s2 m with
      | none =>
        rw [hdv] at hans
        obtain ⟨k9, n9, o9, l9, c9, rfl⟩ := hans
        have HE : Hid (cof (.app s s2) m = none) := by unfold Hid; rw [cof, HDV.out]; simp only; rw [hdv]
        have HA : Hid (RowAt (w3.alloc (.cells #[.int .i64 k9, .int .i64 n9, .slice o9 l9 c9] 75)) (w.heap.size + 1) 75 #[.int .i64 0, .int .i64 0, .slice none 0 0]) := RowAt.old HR3.out _
        unfold CB.lcC
        clear hdv
        go_wp2_with (refine store_3 rfl 75 _ _ rfl rfl CB.zero_lcT.2 (w.heap.size + 1) (CB.lcC k9 n9 (.slice o9 l9 c9)) rfl (CB.lcC_one _ _ _ rfl) rfl rfl _ rfl HA.out ?_; intro w9 hR9 hg9 hs9)
        have hb1 := HB3.out.size
        refine bodyPost_ret (v := .tuple #[.agg (CB.lcC k9 n9 (.slice o9 l9 c9)), .bool false]) (CB.res_lc_tmp Try.results64 _ _ (w.heap.size + 1) k9 n9 (.slice o9 l9 c9) (.bool false) rfl rfl hR9) rfl ⟨?_, (HB3.out.alloc hb1 _).grown hg9 (by simp; omega) (by intro k hk; cases hk; omega)⟩
        rw [HE.out]
        exact ⟨_, _, _, _, _, rfl⟩
      | some B =>
        rw [hdv] at hans
        obtain ⟨zb, rfl, hzb⟩ := hans
        obtain ⟨ob, db, hzzb⟩ := hzb.form
        subst hzzb
        obtain ⟨kb, hkb⟩ : ∃ kb, kb = B.kd := ⟨_, rfl⟩
        obtain ⟨nb, hnb⟩ : ∃ nb, nb = B.nm := ⟨_, rfl⟩
        obtain ⟨lb, hlb⟩ : ∃ lb, lb = B.kids.length := ⟨_, rfl⟩
        rw [← hlb] at hzb
        rw [← hkb, ← hnb, ← hlb]
        obtain ⟨w4, hw4⟩ : ∃ w4, w4 = w3.alloc (.cells #[.int .i64 kb, .int .i64 nb, .slice ob lb db] 75) := ⟨_, rfl⟩
        have hB4 : Below w3.heap.size w3 w4 := by rw [hw4]; exact (Below.refl _ _).alloc (Nat.le_refl _) _
        have hzb4 : CB.LcIn w4 (fun x => W.heap.size ≤ x) B (.slice ob lb db) := CB.LcIn.mono (fun x hx _ => Nat.le_trans (by omega) hx) (CB.LcIn.below hB4 hzb)
        have HC3 := hideT' (CB.lcApp_any A B (.slice oa la da) (.slice ob lb db) _ w4 (CB.LcIn.below hB4 HZA3.out) hzb4)
        rw [← HKA.out.1, ← HKA.out.2, ← hkb, ← hnb] at HC3
        have HB4 : Hid (Below w.heap.size w w4) := HB3.out.trans (hB4.mono HB3.out.size)
        have HR4 : Hid (RowAt w4 (w.heap.size + 1) 75 #[.int .i64 0, .int .i64 0, .slice none 0 0]) := HR3.out.below hB4 HR3.out.lt
        have hs4 := hB4.size
        have q0 : w3.cell? ⟨w1.heap.size, 0, none⟩ = some (.int .i64 ka) := by rw [cell_of_row _ _ _ _ _ _ HRA3.out]; rfl
        have q1 : w3.cell? ⟨w1.heap.size, 1, none⟩ = some (.int .i64 na) := by rw [cell_of_row _ _ _ _ _ _ HRA3.out]; rfl
        have q2 : w3.cell? ⟨w1.heap.size, 2, none⟩ = some (.slice oa la da) := by rw [cell_of_row _ _ _ _ _ _ HRA3.out]; rfl
        have hql : w1.heap.size < w3.heap.size := HRA3.out.lt
        obtain ⟨D, hD⟩ : ∃ D, D = CB.Lm.app A B := ⟨_, rfl⟩
        have HE : Hid (cof (.app s s2) m = chkC D) := by unfold Hid; rw [cof, HDV.out]; simp only; rw [hdv, hD]
        unfold CB.lcC at HC3 ⊢
        have HD := hideT' hD
        clear hdv hzb hzb4 hB4 hkb hnb hlb hD
        go_wp2_with fail
        rw [← hw4]
        refine HC3.out.mono ?_
        rintro e w5 ⟨⟨z5, rfl, hz5⟩, hB5⟩
        have hs5 := hB5.size
        rw [← HD.out] at hz5
        have HB3 : Hid (Below w.heap.size w w5) := HB4.out.trans (hB5.mono HB4.out.size)
        have HR3 : Hid (RowAt w5 (w.heap.size + 1) 75 #[.int .i64 0, .int .i64 0, .slice none 0 0]) := HR4.out.below hB5 HR4.out.lt
        have HZ3 : Hid (CB.LcIn w5 (fun x => W.heap.size ≤ x) D z5) := CB.LcIn.mono (fun x hx _ => by rcases hx with hx | hx; exact hx; exact Nat.le_trans (by omega) hx) hz5
        clear hz5 hB5 hw4 q0 q1 q2
        obtain ⟨o3, d3, hzz3⟩ := HZ3.out.form
        subst hzz3
        obtain ⟨w7, hw7⟩ : ∃ w7, w7 = w5.alloc (.cells #[.int .i64 D.kd, .int .i64 D.nm, .slice o3 D.kids.length d3] 75) := ⟨_, rfl⟩
        have hB4 : Below w5.heap.size w5 w7 := by rw [hw7]; exact (Below.refl _ _).alloc (Nat.le_refl _) _
        have hRD : RowAt w7 w5.heap.size 75 #[.int .i64 D.kd, .int .i64 D.nm, .slice o3 D.kids.length d3] := by rw [hw7]; exact RowAt.new _ _ _
        have HC4 := hideT' (CB.lcTold_any D (.slice o3 D.kids.length d3) _ w7 (CB.LcIn.below hB4 HZ3.out))
        have HZ4 : Hid (CB.LcIn w7 (fun x => W.heap.size ≤ x) D (.slice o3 D.kids.length d3)) := CB.LcIn.below hB4 HZ3.out
        have HR4 : Hid (RowAt w7 (w.heap.size + 1) 75 #[.int .i64 0, .int .i64 0, .slice none 0 0]) := HR3.out.below hB4 HR3.out.lt
        have HB4 : Hid (Below w.heap.size w w7) := HB3.out.trans (hB4.mono HB3.out.size)
        have hs4 := hB4.size
        obtain ⟨kx, hkx⟩ : ∃ kx, kx = D.kd := ⟨_, rfl⟩
        obtain ⟨nx, hnx⟩ : ∃ nx, nx = D.nm := ⟨_, rfl⟩
        obtain ⟨lx, hlx⟩ : ∃ lx, lx = D.kids.length := ⟨_, rfl⟩
        have hk20 : kx = 2 ∧ nx = 0 ∧ lx = 2 := ⟨by rw [hkx, HD.out]; rfl, by rw [hnx, HD.out]; rfl, by rw [hlx, HD.out]; rfl⟩
        rw [← hlx]
        rw [hk20.1] at hkx
        rw [hk20.2.1] at hnx
        clear hk20
        rw [← hkx, ← hnx, ← hlx] at HC4 hw7 hRD
        rw [← hlx] at HZ4
        have HX : Hid (D.kd = 2 ∧ D.nm = 0) := ⟨hkx.symm, hnx.symm⟩
        have HRD := hideT' hRD
        unfold CB.lcC at HC4
        clear hB4 hkx hnx hlx hRD
        go_wp2_with fail
        rw [← hw7]
        refine HC4.out.mono ?_
        rintro e w6 ⟨hT6, hB6⟩
        obtain ⟨u6, rfl, _⟩ := hT6
        have hs6 := hB6.size
        have HR6 : Hid (RowAt w6 (w.heap.size + 1) 75 #[.int .i64 0, .int .i64 0, .slice none 0 0] ∧ RowAt w6 w5.heap.size 75 #[.int .i64 2, .int .i64 0, .slice o3 lx d3]) := ⟨HR4.out.below hB6 HR4.out.lt, HRD.out.below hB6 HRD.out.lt⟩
        have HZ6 : Hid (CB.LcIn w6 (fun x => W.heap.size ≤ x) D (.slice o3 lx d3)) := CB.LcIn.below hB6 HZ4.out
        have HB6 : Hid (Below w.heap.size w w6) := HB4.out.trans (hB6.mono HB4.out.size)
        obtain ⟨gd, hgd⟩ : ∃ gd, gd = D.good := ⟨_, rfl⟩
        rw [← hgd]
        have HGD := hideT' hgd
        clear hB6 hgd hw7
        go_wp2_with (first | (refine wpList_load_row rfl 75 _ rfl w5.heap.size rfl 75 #[.int .i64 2, .int .i64 0, .slice o3 lx d3] (0, 0) _ HR6.out.2 Try.underlying75 rfl CB.zero_lcT.2 ?_) | (refine store_3 rfl 75 _ _ rfl rfl CB.zero_lcT.2 (w.heap.size + 1) (CB.lcC 2 0 (.slice o3 lx d3)) rfl (CB.lcC_one _ _ _ rfl) rfl rfl _ rfl HR6.out.1 ?_; intro w9 hR9 hg9 hs9))
        have hb6 := HB6.out.size
        have hws := HWS.out
        refine bodyPost_ret (v := .tuple #[.agg (CB.lcC 2 0 (.slice o3 lx d3)), .bool gd]) (CB.res_lc_tmp Try.results64 _ _ (w.heap.size + 1) 2 0 (.slice o3 lx d3) (.bool gd) rfl rfl hR9) rfl ⟨?_, HB6.out.grown hg9 hb6 (by intro k hk; cases hk; omega)⟩
        rw [HE.out]
        exact LcoAns.chk HGD.out HX.out.1 HX.out.2 (CB.LcIn.keep (w := w6) (by omega) (fun x hx hl => hg9.block x hl (by intro e; injection e with e; omega)) (fun x hx _ => by omega) HZ6.out)
theorem ldOf_all : ∀ N, LcoC N := by
  intro N
  induction N using Nat.strongRecOn with
  | _ N IH => exact ldOf_step N IH
end Go.Proofs.Ytnnhedncdpfiaaa

/-
  What both CombOfTerm answer.
-/
namespace Go.Proofs.Ytnnhedncdpfiaaa
open Go.RowKit BL
set_option linter.unusedVariables false

def CoT (l : List Nd) : Option CB.Lm := match readP' l with
  | some t => cof t 0
  | none => none
theorem CoT_l {l : List Nd} (h : readP' l = none) : CoT l = none := by unfold CoT; rw [h]
theorem CoT_ok {l : List Nd} {t : Lm} (h1 : readP' l = some t) : CoT l = cof t 0 := by unfold CoT; rw [h1]
set_option maxHeartbeats 4000000 in
theorem implCombOfTerm_any (l : List Nd) (v : Value) (w : World) (hv : NdIn w v l) (hl : l.length ≤ 1048576) :
    Calls Try.prog 38 #[v] w fun e w' => CB.TOut w (CoT l) e w' ∧ Below w.heap.size w w' := by
  have HC := hideT' (readTree_any l v w hv hl)
  clear hv
  go_enter Try.func38, Try.ntmps38
  go_wp2_with fail
  refine HC.out.mono ?_
  rintro e w1 ⟨hans, hB1⟩
  have HB1 := hideT' hB1
  clear hB1
  rcases hans with ⟨p, rfl, hn⟩ | ⟨t, b, rfl, hr, hT⟩
  · have HN := hideT' (CoT_l hn)
    clear hn
    go_wp2
    go_ret2
    exact ⟨CB.TOut.bad HN.out, HB1.out⟩
  · have f1 := readP'_facts hr
    have HN := hideT' (CoT_ok hr)
    have HC3 : Hid (Calls Try.prog 66 #[.pointer (some ⟨b, 0, none⟩), .int .i64 0] w1 fun e w' => CoAns w1.heap.size (cof t 0) e w' ∧ Below w1.heap.size w1 w') := combOf_all t.sz t (Nat.le_refl _) b _ w1 0 hT f1.2.2.2.1 (by have := f1.2.2.1; omega)
    clear hr hT f1
    go_wp2_with fail
    refine HC3.out.mono ?_
    rintro e w3 ⟨hans, hB3⟩
    have HB3 : Hid (Below w.heap.size w w3) := HB1.out.trans (hB3.mono HB1.out.size)
    clear hB3
    cases hdv : cof t 0 with
    | none =>
      rw [hdv] at hans
      obtain ⟨p, rfl⟩ := hans
      have HE : Hid (CoT l = none) := by unfold Hid; rw [HN.out, hdv]
      clear hdv
      go_wp2
      go_ret2
      exact ⟨CB.TOut.bad HE.out, HB3.out⟩
    | some s =>
      rw [hdv] at hans
      obtain ⟨b3, rfl, hT3⟩ := hans
      have HE : Hid (CoT l = some s) := by unfold Hid; rw [HN.out, hdv]
      have hgs := cof_sz hdv
      have HC4 := hideT' (CB.tellTree_any s b3 _ w3 hT3 (by omega))
      clear hT3 hdv hgs
      go_wp2_with fail
      refine HC4.out.mono ?_
      rintro e w4 ⟨hT4, hB4⟩
      obtain ⟨u4, rfl, hO4⟩ := hT4
      have HF : Hid (CB.TOut w (CoT l) (.returned (.tuple #[u4, .bool s.good])) w4 ∧ Below w.heap.size w w4) := ⟨CB.ToldT.out (t := s) ⟨u4, rfl, hO4⟩ HB3.out.size HE.out, HB3.out.trans (hB4.mono HB3.out.size)⟩
      obtain ⟨q, hq⟩ : ∃ q, q = s.good := ⟨_, rfl⟩
      rw [← hq] at HF ⊢
      clear hq hO4 hB4
      go_wp2
      go_ret2
      exact HF.out
set_option maxHeartbeats 4000000 in
theorem specCombOfTerm_any (l : List Nd) (v : Value) (w : World) (hv : NdIn w v l) (hl : l.length ≤ 1048576) :
    Calls Try.prog 37 #[v] w fun e w' => CB.TOut w (CoT l) e w' ∧ Below w.heap.size w w' := by
  have hz0 := CB.zero_lcT.1
  have HV := hideT' hv
  have HC := hideT' (specGoodTerm_any l v w hv hl)
  clear hv
  cases hr : readP' l with
  | none =>
    have HN := hideT' (CoT_l hr)
    rw [goodS_none hr] at HC
    clear hr
    go_enter Try.func37, Try.ntmps37
    go_wp2_with fail
    refine HC.out.mono ?_
    rintro e w1 ⟨rfl, hB1⟩
    go_wp2
    go_ret2
    exact ⟨CB.TOut.bad HN.out, hB1⟩
  | some t =>
    rw [goodS_some hr] at HC
    have HR := hideT' hr
    have HF1 := hideT' (readP'_facts hr)
    have HN := hideT' (CoT_ok hr)
    clear hr
    go_enter Try.func37, Try.ntmps37
    go_wp2_with fail
    refine HC.out.mono ?_
    rintro e w2 ⟨rfl, hB2⟩
    have HB2 := hideT' hB2
    clear hB2
    have HC4 := hideT' (lcTree_whole l t v w2 (HV.out.below HB2.out) HR.out)
    go_wp2_with fail
    refine HC4.out.mono ?_
    rintro e w5 ⟨⟨z5, rfl, hz5⟩, hB5⟩
    have HB5 : Hid (Below w.heap.size w w5) := HB2.out.trans (hB5.mono HB2.out.size)
    have HC5 : Hid (Calls Try.prog 64 #[.agg (lcC t.kd t.nm z5), .int .i64 0] w5 fun e w' => LcoAns w5.heap.size (cof t 0) e w' ∧ Below w5.heap.size w5 w') := ldOf_all t.sz t (Nat.le_refl _) z5 _ w5 0 hz5 HF1.out.2.2.2.1 (by have := HF1.out.2.2.1; omega)
    clear hB5 hz5
    go_wp2_with fail
    refine HC5.out.mono ?_
    rintro e w6 ⟨hans, hB6⟩
    have HB6 : Hid (Below w.heap.size w w6) := HB5.out.trans (hB6.mono HB5.out.size)
    clear hB6
    cases hdv : cof t 0 with
    | none =>
      rw [hdv] at hans
      obtain ⟨k6, n6, o6, m6, c6, rfl⟩ := hans
      have HE : Hid (CoT l = none) := by unfold Hid; rw [HN.out, hdv]
      unfold CB.lcC
      clear hdv
      go_wp2
      go_ret2
      exact ⟨CB.TOut.bad HE.out, HB6.out.alloc HB6.out.size _⟩
    | some T =>
      rw [hdv] at hans
      obtain ⟨z6, rfl, hz6⟩ := hans
      obtain ⟨o6, c6, hzz6⟩ := hz6.form
      subst hzz6
      have HE : Hid (CoT l = some T) := by unfold Hid; rw [HN.out, hdv]
      obtain ⟨W, hWd⟩ : ∃ W, W = w6.alloc (.cells #[.int .i64 T.kd, .int .i64 T.nm, .slice o6 T.kids.length c6] 75) := ⟨_, rfl⟩
      have hBW : Below w6.heap.size w6 W := by rw [hWd]; exact (Below.refl _ _).alloc (Nat.le_refl _) _
      have HBW : Hid (Below w.heap.size w W) := HB6.out.trans (hBW.mono HB6.out.size)
      have HC6 := hideT' (CB.lcTold_any T (.slice o6 T.kids.length c6) _ W (CB.LcIn.below hBW hz6))
      unfold CB.lcC at HC6 ⊢
      clear hz6 hBW hdv
      go_wp2_with fail
      rw [← hWd]
      refine HC6.out.mono ?_
      rintro e w7 ⟨hT7, hB7⟩
      obtain ⟨u7, rfl, hO7⟩ := hT7
      have HF : Hid (CB.TOut w (CoT l) (.returned (.tuple #[u7, .bool T.good])) w7 ∧ Below w.heap.size w w7) := ⟨CB.ToldT.out (t := T) ⟨u7, rfl, hO7⟩ HBW.out.size HE.out, HBW.out.trans (hB7.mono HBW.out.size)⟩
      obtain ⟨q, hq⟩ : ∃ q, q = T.good := ⟨_, rfl⟩
      rw [← hq] at HF ⊢
      clear hq hO7 hB7 hWd
      go_wp2
      go_ret2
      exact HF.out
end Go.Proofs.Ytnnhedncdpfiaaa

/-
  What redexesIn of the program answers.
-/
namespace Go.Proofs.Ytnnhedncdpfiaaa
open Go.RowKit Go.Shelf BL
set_option linter.unusedVariables false
attribute [local go_sem] Oper.semAt_some

/-- How a round of redexesIn begins. -/
def redAct (w : World) (b sb : Nat) (x : Spot × Nat) : Act := { tmps := #[.pointer (some ⟨b, 0, none⟩), undef, .slice none 0 0, .pointer (some ⟨w.heap.size, 0, none⟩), .pointer (some ⟨sb, 0, none⟩), .pointer (some ⟨x.2, 0, none⟩), .pointer (some ⟨b, 0, none⟩), .func (.func 87) #[] #[.pointer (some ⟨w.heap.size + 1, 0, none⟩)], .agg #[.int .i64 (x.1.at_ : Int), .int .i64 x.1.up, .int .i64 (x.1.lam : Int)], .pointer (some ⟨x.2, 0, none⟩), undef, undef, undef, undef, undef, undef, undef, undef], defers := [] }
set_option maxRecDepth 100000 in
set_option maxHeartbeats 8000000 in
theorem redexesIn_any (t : Lm) (b : Nat) (P : Nat → Prop) (w : World) (hT : TrIn w P t b) (hs : t.sz ≤ 1000000) :
    Calls Try.prog 45 #[.pointer (some ⟨b, 0, none⟩)] w fun e w' => (∃ u, e = .returned u ∧ OwnR w' w.heap.size u 3 intL 1 (natsI t.reds)) ∧ Below w.heap.size w w' := by
  refine (callsIn_wide (n := 4)).1 ?_
  have HT := hideT' hT
  clear hT
  refine callsIn_of_wp_marks Try.func45 rfl trivial ?_ rfl
  simp only [Try.ntmps45, List.size_toArray, List.length_cons, List.length_nil, Nat.reduceAdd, Nat.reduceSub, Array.replicate_succ, Array.replicate_zero, List.push_toArray, List.append_toArray, List.nil_append, List.cons_append]
  gi_wp2
  refine ⟨trivial, ?_⟩
  gi_at_call 68
  refine (callsIn_wide.2 (walk_any b _)).mono ?_
  rintro e w3 ⟨rfl, hw3⟩
  have hs3 : w3.heap.size = w.heap.size + 2 := by rw [hw3]; simp
  have hB3 : Below w.heap.size w w3 := by rw [hw3]; exact ((Below.refl _ _).alloc (Nat.le_refl _) _).alloc (by simp) _
  have hI0 : RedI w [] (fun z => z = w.heap.size) w3 := by
    refine ⟨.slice none 0 0, fun z => ?_, ?_, World.ownsRow_nil _ _ _ _, hB3⟩
    · simp [Value.ownBlock]
    · rw [hw3]; exact RowAt.old (RowAt.new _ _ _) _
  have hcx : w3.cell? ⟨w.heap.size + 1, 0, none⟩ = some (.pointer (some ⟨b, 0, none⟩)) := by
    have hr : RowAt w3 (w.heap.size + 1) 58 #[.pointer (some ⟨b, 0, none⟩)] := by
      rw [hw3]
      have := RowAt.new (w.alloc (.cells #[.slice none 0 0] 29)) 58 #[.pointer (some ⟨b, 0, none⟩)]
      rwa [World.size_alloc] at this
    rw [cell_of_row _ _ _ _ _ _ hr]; rfl
  have HI0 := hideT' hI0
  have HB3 := hideT' hB3
  have HCX := hideT' hcx
  clear hw3 hI0 hB3 hcx
  simp only [World.size_alloc]
  gi_wp2
  refine range_own (gf := 87) (lb := #[.pointer (some ⟨w.heap.size + 1, 0, none⟩)]) (by rfl) (enters_of Try.func87 (by kernel_rfl) rfl) encS (fun x => rfl) _ _ _ (walk_seq (w.heap.size + 1) t b hs)
    (fun pre x V V' W hVV h => ⟨h.1, TrIn.mono (fun z hz _ hv => hz (hVV z hv)) h.2⟩)
    (RedI w) (fun s V A h => h.lt) (fun s V A B row h hg hr => h.step hg (fun r e => ⟨(hr r e).1, by have := (hr r e).2; omega⟩)) (fun z => z = w.heap.size) HI0.out ?need
    (fun pre x V c W => ∃ sb, c = redAct w b sb x ∧ pre.length < t.sz ∧ (x.1.at_ < t.sz) ∧ RedI w pre V W ∧ RowAt W sb 106 #[.int .i64 (x.1.at_ : Int), .int .i64 x.1.up, .int .i64 (x.1.lam : Int)] ∧ ¬ V sb ∧ TrIn W (fun z => ¬ V z) x.1.t x.2) ?ax ?assign ?body ?done
  case need =>
    intro B V hg hV
    refine ⟨TrIn.keep (w := w) (P := P) (by have := hg.size; omega) (fun x _ hx => ?_) (fun x _ hx hv => ?_) HT.out, ?_⟩
    · rw [hg.block x (by omega) (by simp)]; exact HB3.out.block x hx
    · rcases hV x hv with h | h <;> omega
    · rw [World.cell?_of_block (w := w3) (a := ⟨w.heap.size + 1, 0, none⟩) (hg.block _ (by simp; omega) (by simp))]; exact HCX.out
  case ax =>
    rintro s x V c A B row ⟨sb, h1, hl, ha, h2, h3, h4, h5⟩ hg hr
    exact ⟨sb, h1, hl, ha, h2.step hg (fun r e => ⟨(hr r e).1.1, by have := (hr r e).1.2; omega⟩), TrIn.turn.row_same h3 hg (fun r e => (hr r e).2), h4, TrIn.turn hg (fun r e => (hr r e).2) h5⟩
  case assign =>
    intro l pre x V W K hNx hI hK
    have HI := hideT' hI
    have HK := hideT' hK
    have HNX := hideT' hNx
    unfold encS
    clear hI hK hNx
    gi_wp2
    have hal : Below W.heap.size W (W.alloc (.cells #[.int .i64 (x.1.at_ : Int), .int .i64 x.1.up, .int .i64 (x.1.lam : Int)] 106)) := (Below.refl _ _).alloc (Nat.le_refl _) _
    obtain ⟨⟨post, hpo⟩, hTx⟩ := HNX.out
    have hlen := congrArg List.length hpo
    rw [Lm.walk_len, List.length_append, List.length_map, List.length_cons] at hlen
    refine HK.out _ _ V ⟨W.heap.size, rfl, by omega, ?_, HI.out.step (row := none) ⟨hal.os, hal.tape, hal.output, hal.size, fun k hk _ => hal.block k hk⟩ (fun r e => by cases e), RowAt.new _ _ _, fun h => by have := HI.out.lt _ h; omega, TrIn.below hal hTx⟩ (MoreB.refl _ _) (KeepsB.below hal)
    have := (Lm.walk_sub t 0 (-1) 0 x.1 (by rw [hpo]; simp)).2.2.2.1
    omega
  case body =>
    rintro l pre x V c W ⟨sb, rfl, hpl, hat, hI, hR, hVs, hTx⟩
    unfold redAct
    obtain ⟨v, hV, hRv, hO, hB⟩ := hI
    obtain ⟨ov, cap, hvv⟩ := own_formT hO
    subst hvv
    have hls := redsOf_len pre
    have hra := redsOf_app pre x
    have hca : W.cell? ⟨sb, 0, none⟩ = some (.int .i64 (x.1.at_ : Int)) := by rw [cell_of_row _ _ _ _ _ _ hR]; rfl
    have hcv : W.cell? ⟨w.heap.size, 0, none⟩ = some (.slice ov (redsOf pre).length cap) := by rw [cell_of_row _ _ _ _ _ _ hRv]; rfl
    have HC := hideT' (isRedex_any x.1.t x.2 _ W hTx)
    obtain ⟨q, hq⟩ : ∃ q, q = x.1.t.isRed := ⟨_, rfl⟩
    rw [← hq] at HC hra
    have HV := hideT' hV
    have HRV := hideT' hRv
    have HO := hideT' hO
    have HB := hideT' hB
    have hsb := hR.lt
    have hwz := hRv.lt
    clear hV hRv hO hB hR hTx hq
    cases q with
    | false =>
      have HRA : Hid (redsOf (pre ++ [x]) = redsOf pre) := by unfold Hid; rw [hra]; simp
      clear hra
      gi_wp2
      refine ⟨trivial, ?_⟩
      gi_at_call 69
      refine (CallsIn.inRound l (callsIn_wide.2 HC.out)).mono ?_
      rintro e w4 ⟨rfl, rfl⟩
      gi_wp2
      exact ⟨V, ⟨_, HV.out, HRV.out, by rw [HRA.out]; exact HO.out, HB.out⟩, MoreB.refl _ _, KeepsB.refl _ _⟩
    | true =>
      have HRA : Hid (redsOf (pre ++ [x]) = redsOf pre ++ [(x.1.at_ : Int)]) := by unfold Hid; rw [hra]; simp
      clear hra
      obtain ⟨i0, hi, hz0, hz1, hz2⟩ := info_parts info_int
      gi_wp2
      refine ⟨trivial, ?_⟩
      gi_at_call 69
      refine (CallsIn.inRound l (callsIn_wide.2 HC.out)).mono ?_
      rintro e w4 ⟨rfl, rfl⟩
      have hwl : w.heap.size + 1 ≤ w4.heap.size := hwz
      gi_wp2_with (gi_at_builtin; refine wpListIn_append_own_at _ rfl _ _ 29 rfl (w.heap.size + 1) 3 i0 (.int .i64 0) 1 8 Try.underlying29 hi hz0 hz1 hz2 rfl (by decide) (.slice ov (redsOf pre).length cap) _ _ rfl (HO.out.alloc _) ⟨w4.heap.size, 0, none⟩ 1 1 [.int .i64 (x.1.at_ : Int)] rfl rfl (cell_one_new _ _ _) (oneT_cell _) (by unfold maxLen; omega) (by omega) (by simp; omega) ?_; intro v5 w5 hown5 hg5 _ hat5; obtain ⟨g5, cap5, rfl⟩ := ownsRow_succ hown5; have hbx5 := boxR_append (B := w.heap.size) (t := 29) HRV.out (by decide) HO.out hown5 hg5; have HBX5 := hideT' hbx5; have f5 : w5.cell? ⟨w.heap.size, 0, none⟩ = some (.slice ov (redsOf pre).length cap) := hbx5.1.cell; have fz5 : w5.frozen? ⟨w.heap.size, 0, none⟩ = false := hbx5.1.frozen; have HG5 := hideT' hg5; have HAT5 := hideT' hat5; clear hbx5 hg5 hat5)
      obtain ⟨_, q1, q2, q3, q4, q5, q6, q7, q8⟩ := HBX5.out
      have hob : ∀ z, z < w4.heap.size → ¬ V z → (w5.setCell ⟨w.heap.size, 0, none⟩ (.slice (some ⟨g5, 0, none⟩) ((redsOf pre).length + 1) cap5)).heap[z]? = w4.heap[z]? := fun z hz hv => by
        have h1 : z ≠ w.heap.size := fun e => hv ((HV.out z).2 (.inl e))
        rw [heap_setCell_other w5 ⟨w.heap.size, 0, none⟩ z _ (fun e => h1 e), HG5.out.block z (by simp; omega) (fun e => hv ((HV.out z).2 (.inr e.symm))), Below.heap_alloc _ _ _ hz]
      refine ⟨fun z => z = w.heap.size ∨ (Value.slice (some ⟨g5, 0, none⟩) ((redsOf pre).length + 1) cap5).ownBlock = some z, ⟨_, fun z => Iff.rfl, q1, ?_, ?_⟩, ?_, ⟨q4, fun z hz hv => hob z hz hv⟩⟩
      · unfold OwnR
        rw [HRA.out, List.length_append, List.length_singleton, List.flatMap_append]; exact q2
      · refine HB.out.trans ⟨q6, q7, q8, q4, fun j hj => ?_⟩
        exact hob j (by omega) (fun h => by
          rcases (HV.out j).1 h with e | e
          · omega
          · have := (HO.out.lt j e).1; omega)
      · intro z hz
        rcases hz with rfl | hz
        · exact .inl ((HV.out _).2 (.inl rfl))
        · rcases HAT5.out with h | h
          · exact .inl ((HV.out z).2 (.inr (by rw [← h]; exact hz)))
          · rw [h] at hz
            injection hz with hz
            rw [World.size_alloc] at hz
            exact .inr (by omega)
  case done =>
    rintro D ys V W hD hS ⟨v, hV, hRv, hO, hB⟩ hVD hK
    obtain ⟨ov, cap, hvv⟩ := own_formT hO
    subst hvv
    have hcv : W.cell? ⟨w.heap.size, 0, none⟩ = some (.slice ov (redsOf ys).length cap) := by rw [cell_of_row _ _ _ _ _ _ hRv]; rfl
    have HOW : Hid (W.ownsRow w.heap.size 3 1 (.slice ov (redsOf ys).length cap) (natsI t.reds).length ((natsI t.reds).flatMap intL)) := by
      unfold Hid
      rw [← redsOf_all hS]
      exact ⟨hO.1, hO.2.imp id fun ⟨g, cap, cur, h1, h2, h3⟩ => ⟨g, cap, cur, h1, by omega, h3⟩⟩
    have HW := hideT' hB
    have HKD := hideT' hK
    clear hO hB hK hRv
    gi_wp2
    refine leave_marks (v := .slice ov (redsOf ys).length cap) HKD.out (by simp [results, Try.results45, go_sem]) ⟨⟨_, rfl, ?_⟩, below_put HW.out (by omega) HW.out.size⟩
    exact ⟨HOW.out.1, HOW.out.2.imp id fun ⟨g, cap, cur, h1, h2, h3, h4⟩ => ⟨g, cap, cur, h1, h2, row_put h3 HKD.out rfl, h4⟩⟩
end Go.Proofs.Ytnnhedncdpfiaaa

/-
  What lcRedexes and RedexesIn of the model answer; RedexesIn of the program.
-/
namespace Go.Proofs.Ytnnhedncdpfiaaa
open Go.RowKit BL
set_option linter.unusedVariables false

theorem Seg.spot {l : List Nd} : ∀ {t : Lm} {a : Nat} {up : Int}, Seg l t a up → ∀ m, ∀ x ∈ t.walk a up m, ndAt l x.at_ = x.nd ∧ x.at_ + x.t.sz ≤ a + t.sz
  | .var n, a, up, h, m, x, hx => by
    simp only [Lm.walk, List.mem_singleton] at hx
    subst hx
    exact ⟨h.nd, Nat.le_refl _⟩
  | .lam t, a, up, h, m, x, hx => by
    rw [Lm.walk] at hx
    rcases List.mem_cons.1 hx with rfl | hx
    · exact ⟨h.nd, Nat.le_refl _⟩
    · have := Seg.spot h.2 _ x hx
      exact ⟨this.1, by have := this.2; simp only [Lm.sz]; omega⟩
  | .app s t, a, up, h, m, x, hx => by
    rw [Lm.walk] at hx
    rcases List.mem_cons.1 hx with rfl | hx
    · exact ⟨h.nd, Nat.le_refl _⟩
    · rcases List.mem_append.1 hx with hx | hx
      · have := Seg.spot h.2.1 _ x hx
        exact ⟨this.1, by have := this.2; simp only [Lm.sz]; omega⟩
      · have := Seg.spot h.2.2 _ x hx
        exact ⟨this.1, by have := this.2; simp only [Lm.sz]; omega⟩
/-- An application has a node behind it. -/
theorem flat_next (t : Lm) (k : Nat) (hk : k < t.sz) (h3 : (ndAt (t.flat 0 (-1)) k).k = 3) : k + 1 < t.sz := by
  have h1 : k ∈ (t.walk 0 (-1) 0).map Spot.at_ := by rw [Lm.walk_ats]; simp [List.mem_range']; omega
  obtain ⟨x, hx, rfl⟩ := List.mem_map.1 h1
  have h2 := Seg.spot (Seg.whole t) 0 x hx
  rw [h2.1] at h3
  simp only [Spot.nd] at h3
  cases hx' : x.t with
  | var n => rw [hx'] at h3; simp [Lm.kd] at h3
  | lam s => rw [hx'] at h3; simp [Lm.kd] at h3
  | app p q =>
    have h4 := h2.2
    rw [hx'] at h4
    simp only [Lm.sz] at h4
    have := p.sz_pos
    omega
def redsTo (l : List Nd) (k : Nat) : List Nat := (List.range k).filter (redN l)
theorem redsTo_succ (l : List Nd) (k : Nat) : redsTo l (k + 1) = redsTo l k ++ (if redN l k then [k] else []) := by
  unfold redsTo
  rw [List.range_succ, List.filter_append]
  congr 1
  cases h : redN l k <;> simp [List.filter, h]
theorem redsTo_le (l : List Nd) (k : Nat) : (redsTo l k).length ≤ k := by
  unfold redsTo
  exact Nat.le_trans (List.length_filter_le _ _) (by simp)

set_option maxHeartbeats 4000000 in
set_option maxRecDepth 100000 in
theorem lcRedexes_any (t : Lm) (v : Value) (w : World) (hv : NdIn w v (t.flat 0 (-1))) (hs : t.sz ≤ 1000000) :
    Calls Try.prog 44 #[v] w fun e w' => (∃ u, e = .returned u ∧ OwnR w' w.heap.size u 3 intL 1 (natsI t.reds)) ∧ Below w.heap.size w w' := by
  have HV := hideT' hv
  obtain ⟨o, cap, rfl⟩ := hv.len
  clear hv
  obtain ⟨i0, hi, hz0, hz1, hz2⟩ := info_parts info_int
  have hz := zero_term.1
  obtain ⟨l, hl⟩ : ∃ l, l = t.flat 0 (-1) := ⟨_, rfl⟩
  rw [← hl] at HV ⊢
  obtain ⟨n, hn⟩ : ∃ n, n = l.length := ⟨_, rfl⟩
  have HNS : Hid (n = t.sz) := by unfold Hid; rw [hn, hl, Lm.flat_sz]
  have HNX : Hid (∀ k, k < n → (ndAt l k).k = 3 → k + 1 < n) := fun k hk h3 => by rw [HNS.out]; exact flat_next t k (by rw [← HNS.out]; exact hk) (by rw [← hl]; exact h3)
  have HRE : Hid (redsTo l n = t.reds) := by
    unfold Hid
    rw [← redsN_flat, ← hl, hn]; rfl
  have HNN := hideT' hn
  have hn1 : n ≤ 1000000 := by rw [HNS.out]; exact hs
  rw [← hn]
  clear hn hl hs
  go_enter Try.func44, Try.ntmps44
  go_wp2_with fail
  go_loopg [3, 8] n (fun g x i wr => ∃ k : Nat, g = n - k ∧ k ≤ n ∧ i = .int .i64 (k : Int) ∧ OwnR wr w.heap.size x 3 intL 1 (natsI (redsTo l k)) ∧ Below w.heap.size w wr)
  case atStart => exact ⟨0, rfl, by omega, by go_num, World.ownsRow_nil _ _ _ _, Below.refl _ _⟩
  case round =>
    obtain ⟨k, hg, hk, rfl, hO, hW⟩ := hrel
    obtain ⟨o2, cap2, hv2⟩ := own_formT hO
    have HO := hideT' hO
    subst hv2
    by_cases hlt : (k : Int) < (n : Int)
    · obtain ⟨nd, hnd⟩ : ∃ nd, nd = ndAt l k := ⟨_, rfl⟩
      obtain ⟨b, rfl, hb, c0, c1, c2⟩ := (HV.out.below hW).cells (by have := HNN.out; omega) hnd
      have hb' : b < wr.heap.size := hb
      have hsucc := redsTo_succ l k
      have hpl := redsTo_le l k
      rw [← natsI_len] at hpl
      have HW := hideT' hW
      have hsz := hW.size
      have HKD : Hid ((ndAt l k).k = nd.k) := by unfold Hid; rw [hnd]
      clear hb hnd hO hW
      obtain ⟨kd, nm, u⟩ := nd
      simp only at c0 c1 c2 HKD
      have hAl : Below w.heap.size w (wr.alloc (.cells #[.int .i64 kd, .int .i64 nm, .int .i64 u] 54)) := HW.out.alloc hsz _
      have HAL := hideT' hAl
      clear hAl
      by_cases h3 : kd = 3
      · subst h3
        have hk1 := HNX.out k (by omega) HKD.out
        obtain ⟨nd2, hnd2⟩ : ∃ nd2, nd2 = ndAt l (k + 1) := ⟨_, rfl⟩
        obtain ⟨b2, e2, _, d0, _, _⟩ := (HV.out.below HW.out).cells (by have := HNN.out; omega) hnd2
        cases e2
        have HRN : Hid (redN l k = decide (nd2.k = 2)) := by unfold Hid redN; rw [HKD.out, ← hnd2]; simp
        clear hnd2
        obtain ⟨kd2, nm2, u2⟩ := nd2
        simp only at d0 HRN
        have hcast : ((k + 1 : Nat) : Int) = (k : Int) + 1 := by omega
        have HCA := hideT' hcast
        clear hcast
        by_cases h2 : kd2 = 2
        · have HS : Hid (natsI (redsTo l (k + 1)) = natsI (redsTo l k) ++ [(k : Int)]) := by unfold Hid; rw [hsucc, HRN.out, decide_eq_true h2]; simp [natsI]
          clear hsucc
          go_wp2_with (at_builtin; refine wpList_append_own _ rfl _ _ 29 rfl w.heap.size 3 i0 (.int .i64 0) 1 8 Try.underlying29 hi hz0 hz1 hz2 rfl (by decide) _ _ _ rfl ((HO.out.alloc _).alloc _) ⟨wr.heap.size + 1, 0, none⟩ 1 1 [.int .i64 (k : Int)] rfl rfl (by have := cell_one_new (wr.alloc (.cells #[.int .i64 3, .int .i64 nm, .int .i64 u] 54)) (.int .i64 (k : Int)) 3; rw [World.size_alloc] at this; exact this) (oneT_cell _) (by unfold maxLen; omega) (by omega) (by simp; omega) ?_; intro v' w4 hown' hgrow _)
          have hgb : ∀ g, (Value.slice o2 (natsI (redsTo l k)).length cap2).ownBlock = some g → w.heap.size ≤ g := fun g e => (HO.out.lt g e).1
          go_roundg (n - (k + 1))
          case measure => omega
          case rel =>
            refine ⟨k + 1, rfl, by omega, by go_num, ?_, ?_⟩
            · rw [HS.out]
              unfold OwnR
              rw [List.length_append, List.flatMap_append]
              exact hown'
            · exact (HAL.out.alloc (by simp; omega) _).grown hgrow (by simp; omega) (fun k hk => hgb _ hk)
        · have HS : Hid (natsI (redsTo l (k + 1)) = natsI (redsTo l k)) := by unfold Hid; rw [hsucc, HRN.out, decide_eq_false h2]; simp
          clear hsucc
          go_wp2
          go_roundg (n - (k + 1))
          case measure => omega
          case rel => exact ⟨k + 1, rfl, by omega, by go_num, by rw [HS.out]; exact HO.out.alloc _, HAL.out⟩
      · have HS : Hid (natsI (redsTo l (k + 1)) = natsI (redsTo l k)) := by unfold Hid; rw [hsucc]; unfold redN; rw [HKD.out, decide_eq_false h3]; simp
        clear hsucc
        go_wp2
        go_roundg (n - (k + 1))
        case measure => omega
        case rel => exact ⟨k + 1, rfl, by omega, by go_num, by rw [HS.out]; exact HO.out.alloc _, HAL.out⟩
    · have hkn : k = n := by omega
      subst hkn
      clear hO
      go_wp2
      go_ret
      exact ⟨⟨_, rfl, by rw [← HRE.out]; exact HO.out⟩, hW⟩

/-- The answer of both RedexesIn. -/
def RedB (l : List Nd) : Bool := goodS l
def RedL (l : List Nd) : List Int := match readP' l with | none => [] | some t => natsI t.reds
def RedOut (w : World) (l : List Nd) (e : Ending) (w' : World) : Prop :=
  ∃ u, e = .returned (.tuple #[u, .bool (RedB l)]) ∧ OwnR w' w.heap.size u 3 intL 1 (RedL l)
theorem own_keep' {w w' : World} {B n s : Nat} {T : TypeId} {v : Value} {xs : List Value} {row : Option Nat} (h : w.ownsRow B T s v n xs) (hg : w.grownBy w' row) (hr : ∀ g, v.ownBlock = some g → some g ≠ row) : w'.ownsRow B T s v n xs :=
  own_keep h (fun g e => hg.block g (h.lt g e).2 (hr g e))
theorem readP'_good {l : List Nd} {t : Lm} (h : readP' l = some t) : l = t.flat 0 (-1) ∧ t.sz ≤ 150 := by
  have := (readP'_iff l t).1 h
  exact ⟨this.1, (Lm.good_sz this.2).1⟩
theorem RedL_len (l : List Nd) : (RedL l).length ≤ 1048576 := by
  unfold RedL
  split
  · simp
  · next t h =>
    have h1 := (readP'_good h).2
    rw [natsI_len]
    unfold Lm.reds
    rw [List.length_map]
    have h2 := List.length_filter_le (fun x : Spot => x.t.isRed) (t.walk 0 (-1) 0)
    rw [Lm.walk_len] at h2
    omega
set_option maxHeartbeats 2000000 in
theorem specRedexesIn_any (l : List Nd) (v : Value) (w : World) (hv : NdIn w v l) (hl : l.length ≤ 1048576) :
    Calls Try.prog 16 #[v] w fun e w' => RedOut w l e w' ∧ Below w.heap.size w w' := by
  have HV := hideT' hv
  have HC := hideT' (specGoodTerm_any l v w hv hl)
  clear hv
  have hgr := goodS_read l
  cases hr : readP' l with
  | none =>
    rw [hr] at hgr
    have HG : Hid (goodS l = false) := hgr
    have HR := hideT' hr
    rw [HG.out] at HC
    clear hgr hr
    go_enter Try.func16, Try.ntmps16
    go_wp2_with fail
    refine HC.out.mono ?_
    rintro e w1 ⟨rfl, hB1⟩
    go_wp2
    go_ret2
    exact ⟨⟨.slice none 0 0, by unfold RedB; rw [HG.out]; rfl, by unfold RedL; rw [HR.out]; exact World.ownsRow_nil _ _ _ _⟩, hB1⟩
  | some t =>
    rw [hr] at hgr
    have HG : Hid (goodS l = true) := hgr
    have HR := hideT' hr
    rw [HG.out] at HC
    obtain ⟨hl1, hl2⟩ := readP'_good hr
    have HL := hideT' hl1
    clear hgr hr hl1
    go_enter Try.func16, Try.ntmps16
    go_wp2_with fail
    refine HC.out.mono ?_
    rintro e w1 ⟨rfl, hB1⟩
    have HC2 := hideT' (lcRedexes_any t v w1 (by have := HV.out.below hB1; rw [HL.out] at this; exact this) (by omega))
    go_wp2_with fail
    refine HC2.out.mono ?_
    rintro e w2 ⟨⟨u, rfl, hO⟩, hB2⟩
    have HF : Hid (OwnR w2 w.heap.size u 3 intL 1 (natsI t.reds) ∧ Below w.heap.size w w2) := ⟨⟨hO.1, hO.2.imp id fun ⟨g, cap, cur, h1, h2, h3⟩ => ⟨g, cap, cur, h1, Nat.le_trans hB1.size h2, h3⟩⟩, hB1.trans (hB2.mono hB1.size)⟩
    clear hO hB2
    go_wp2
    go_ret2
    exact ⟨⟨u, by unfold RedB; rw [HG.out]; rfl, by unfold RedL; rw [HR.out]; exact HF.out.1⟩, HF.out.2⟩
set_option maxHeartbeats 2000000 in
theorem implRedexesIn_any (l : List Nd) (v : Value) (w : World) (hv : NdIn w v l) (hl : l.length ≤ 1048576) :
    Calls Try.prog 17 #[v] w fun e w' => RedOut w l e w' ∧ Below w.heap.size w w' := by
  have HC := hideT' (readTree_any l v w hv hl)
  have hgr := goodS_read l
  clear hv
  go_enter Try.func17, Try.ntmps17
  go_wp2_with fail
  refine HC.out.mono ?_
  rintro e w1 ⟨hans, hB1⟩
  rcases hans with ⟨p, rfl, hn⟩ | ⟨t, b, rfl, hr, hT⟩
  · have HG : Hid (goodS l = false) := by unfold Hid; rw [hgr, hn]; rfl
    have HR := hideT' hn
    clear hgr hn
    go_wp2
    go_ret2
    exact ⟨⟨.slice none 0 0, by unfold RedB; rw [HG.out]; rfl, by unfold RedL; rw [HR.out]; exact World.ownsRow_nil _ _ _ _⟩, hB1⟩
  · have HG : Hid (goodS l = true) := by unfold Hid; rw [hgr, hr]; rfl
    obtain ⟨_, hl2⟩ := readP'_good hr
    have HR := hideT' hr
    have HC2 := hideT' (redexesIn_any t b _ w1 hT (by omega))
    clear hgr hr hT
    go_wp2_with fail
    refine HC2.out.mono ?_
    rintro e w2 ⟨⟨u, rfl, hO⟩, hB2⟩
    have HF : Hid (OwnR w2 w.heap.size u 3 intL 1 (natsI t.reds) ∧ Below w.heap.size w w2) := ⟨⟨hO.1, hO.2.imp id fun ⟨g, cap, cur, h1, h2, h3⟩ => ⟨g, cap, cur, h1, Nat.le_trans hB1.size h2, h3⟩⟩, hB1.trans (hB2.mono hB1.size)⟩
    clear hO hB2
    go_wp2
    go_ret2
    exact ⟨⟨u, by unfold RedB; rw [HG.out]; rfl, by unfold RedL; rw [HR.out]; exact HF.out.1⟩, HF.out.2⟩
end Go.Proofs.Ytnnhedncdpfiaaa

/-
  Rows of Term that are answers: what the laws' own helpers over them say.
-/
namespace Go.Proofs.Ytnnhedncdpfiaaa
open Go.RowKit
set_option linter.unusedVariables false
/-- One that is marked. -/
def markTerm (k : Int) : Int × Int × Int := (k, k + 1, k + 1 + 1)
theorem runX_term {o : Oper} {a : Act} {w : World} (x : Operand) (ho : o.op = .load 54 x) (b i : Nat) (hx : a.eval x = .pointer (some ⟨b, i * 3, none⟩)) (d : Int × Int × Int) (hD : w.rangeAt b (i * 3) (termL d)) :
    (execOp a.eval o).run Try.prog w = .ok (.value (.agg (termL d).toArray)) w := by
  have h := run_loadAt_mid (P := Try.prog) w b (i * 3) 54 (termL d) _ hD Try.underlying54 rfl zero_term.2
  unfold execOp
  simp only [ho, hx, Sem.run_bind, h, Result.andThen_ok]
  rfl
set_option maxHeartbeats 1000000 in
set_option maxRecDepth 100000 in
theorem eqTermS_in (v1 v2 : Value) (l : List (Int × Int × Int)) (w : World) (hl : l.length ≤ 1048576) (h1 : InR w v1 termL 3 l) (h2 : InR w v2 termL 3 l) :
    Calls Try.prog 15 #[v1, v2] w fun e w' => e = .returned (.bool true) ∧ Below w.heap.size w w' := by
  obtain ⟨o1, cap1, rfl, h1⟩ := h1
  obtain ⟨o2, cap2, rfl, h2⟩ := h2
  rcases Classical.em (l = []) with rfl | hne
  · clear h1 h2
    go_enter Try.func15, Try.ntmps15
    go_wp2_with fail
    go_loopg [5] 0 (fun g i wr => i = .int .i64 0 ∧ wr = w)
    case atStart => exact ⟨rfl, rfl⟩
    case round =>
      obtain ⟨rfl, rfl⟩ := hrel
      go_wp2
      go_ret
      exact ⟨rfl, Below.refl _ _⟩
  obtain ⟨b1, rfl, hb1, h1⟩ := h1 hne
  obtain ⟨b2, rfl, hb2, h2⟩ := h2 hne
  have H1 := hideT' h1
  have H2 := hideT' h2
  clear h1 h2 hne
  go_enter Try.func15, Try.ntmps15
  go_wp2_with fail
  go_loopg [5] l.length (fun g i wr => ∃ k : Nat, g = l.length - k ∧ k ≤ l.length ∧ i = .int .i64 (k : Int) ∧ Below w.heap.size w wr)
  case atStart => exact ⟨0, rfl, by omega, rfl, Below.refl _ _⟩
  case round =>
    obtain ⟨k, hg, hk, rfl, hW⟩ := hrel
    by_cases hlt : (k : Int) < (l.length : Int)
    · have hk' : k < l.length := by omega
      obtain ⟨d, hd⟩ : ∃ d, d = l.getD k default := ⟨_, rfl⟩
      have HDM := hideT' hd
      have h1 := H1.out
      have h2 := H2.out
      clear hd
      have hrg : ∀ w', Below w.heap.size w w' → w'.rangeAt b1 (k * 3) (termL d) ∧ w'.rangeAt b2 (k * 3) (termL d) := fun w' hB => by
        refine ⟨fun j u hu => ?_, fun j u hu => ?_⟩
        · rw [hB.cell (p := ⟨b1, k * 3 + j, none⟩) hb1]; rw [HDM.out] at hu; exact h1 k j u hk' hu
        · rw [hB.cell (p := ⟨b2, k * 3 + j, none⟩) hb2]; rw [HDM.out] at hu; exact h2 k j u hk' hu
      have HRG := hideT' hrg
      have hS := hrg wr.drew (Below.drew hW)
      clear h1 h2 hrg
      go_wp2_with fail
      refine held_begin (fun w' => w'.rangeAt b1 (k * 3) (termL d) ∧ w'.rangeAt b2 (k * 3) (termL d)) (by kernel_rfl) ?_
      refine held_val 0 (some 17) rfl rfl (by kernel_rfl) (by kernel_rfl) (by kernel_rfl) noPanic_put rfl (.slice (some ⟨b1, 0, none⟩) l.length cap1) (fun _ => rfl) hS ?_
      simp only [Act.put, List.setIfInBounds_toArray, List.set_cons_zero, List.set_cons_succ]
      refine held_val 1 (some 18) rfl rfl (by kernel_rfl) (by kernel_rfl) (by kernel_rfl) noPanic_put rfl (.int .i64 (k : Int)) (fun _ => rfl) hS ?_
      simp only [Act.put, List.setIfInBounds_toArray, List.set_cons_zero, List.set_cons_succ]
      refine held_val 2 (some 19) rfl rfl (by kernel_rfl) (by kernel_rfl) (by kernel_rfl) noPanic_put rfl (.pointer (some ⟨b1, k * 3, none⟩)) (fun _ => by go_simp) hS ?_
      simp only [Act.put, List.setIfInBounds_toArray, List.set_cons_zero, List.set_cons_succ]
      refine held_valS 3 (some 20) rfl rfl (by kernel_rfl) (by kernel_rfl) (by kernel_rfl) noPanic_put rfl (.agg (termL d).toArray) (fun _ hw' => runX_term _ rfl b1 k rfl d hw'.1) hS ?_
      simp only [Act.put, List.setIfInBounds_toArray, List.set_cons_zero, List.set_cons_succ]
      refine held_val 4 (some 21) rfl rfl (by kernel_rfl) (by kernel_rfl) (by kernel_rfl) noPanic_put rfl (.slice (some ⟨b2, 0, none⟩) l.length cap2) (fun _ => rfl) hS ?_
      simp only [Act.put, List.setIfInBounds_toArray, List.set_cons_zero, List.set_cons_succ]
      refine held_val 5 (some 22) rfl rfl (by kernel_rfl) (by kernel_rfl) (by kernel_rfl) noPanic_put rfl (.int .i64 (k : Int)) (fun _ => rfl) hS ?_
      simp only [Act.put, List.setIfInBounds_toArray, List.set_cons_zero, List.set_cons_succ]
      refine held_val 6 (some 23) rfl rfl (by kernel_rfl) (by kernel_rfl) (by kernel_rfl) noPanic_put rfl (.pointer (some ⟨b2, k * 3, none⟩)) (fun _ => by go_simp) hS ?_
      simp only [Act.put, List.setIfInBounds_toArray, List.set_cons_zero, List.set_cons_succ]
      refine held_valS 7 (some 24) rfl rfl (by kernel_rfl) (by kernel_rfl) (by kernel_rfl) noPanic_put rfl (.agg (termL d).toArray) (fun _ hw' => runX_term _ rfl b2 k rfl d hw'.2) hS ?_
      simp only [Act.put, List.setIfInBounds_toArray, List.set_cons_zero, List.set_cons_succ]
      refine held_call 8 (some 25) (by kernel_rfl) rfl rfl rfl 43 #[.agg (termL d).toArray, .agg (termL d).toArray] (by go_simp) _ (eqTerm_any d wr.drew) ?_
      rintro e w2 ⟨rfl, hW2⟩
      have hW2 : Below wr.heap.size wr w2 := ⟨hW2.os, hW2.tape, hW2.output, hW2.size, hW2.block⟩
      have hW3 := hW.trans (hW2.mono hW.size)
      have hS2 := HRG.out w2 hW3
      refine ⟨_, rfl, hS2, ?_⟩
      simp only [Act.put, List.setIfInBounds_toArray, List.set_cons_zero, List.set_cons_succ]
      refine held_val 9 (some 26) rfl rfl (by kernel_rfl) (by kernel_rfl) (by kernel_rfl) noPanic_put rfl (.bool false) (fun _ => by go_simp) hS2 ?_
      simp only [Act.put, List.setIfInBounds_toArray, List.set_cons_zero, List.set_cons_succ]
      refine wpAnyH_done (by kernel_rfl) ?_ _
      refine NoPanic.normal ?_
      go_wp2
      go_roundg (l.length - (k + 1))
      case measure => omega
      case rel => exact ⟨k + 1, rfl, by omega, by go_num, hW3⟩
    · go_wp2
      go_ret
      exact ⟨rfl, hW⟩
set_option maxHeartbeats 2000000 in
set_option maxRecDepth 100000 in
theorem markTermS_own (v : Value) (n : Nat) (xs0 : List Value) (k : Int) (B : Nat) (w : World) (hk0 : 0 < k) (hk1 : k + 3 * (n : Int) ≤ 1099511627776) (h : w.ownsRow B 54 3 v n xs0) :
    Calls Try.prog 19 #[v, .int .i64 k] w fun e w' => e = .returned (.int .i64 (k + 3 * (n : Int))) ∧ OwnR w' B v 54 termL 3 (markL markTerm 3 k n) ∧ w.grownBy w' v.ownBlock := by
  rcases h.2 with ⟨rfl, rfl⟩ | ⟨b, cap, cur, rfl, hB, _⟩
  · have hx : k + 3 * ((0 : Nat) : Int) = k := by simp
    rw [hx]
    clear hx hk1
    go_enter Try.func19, Try.ntmps19
    go_wp2_with fail
    go_loopg [1, 5] 0 (fun g x i wr => x = .int .i64 k ∧ i = .int .i64 0 ∧ wr = w)
    case atStart => exact ⟨rfl, rfl, rfl⟩
    case round =>
      obtain ⟨rfl, rfl, rfl⟩ := hrel
      go_wp2
      go_ret
      exact ⟨rfl, by simpa [OwnR, markL] using World.ownsRow_nil _ _ _ _, ⟨rfl, rfl, rfl, Nat.le_refl _, fun _ _ _ => rfl⟩⟩
  · obtain ⟨N, hN⟩ : ∃ N : Int, N = k + 3 * (n : Int) := ⟨_, rfl⟩
    have HN := hideT' hN
    have HB := hideT' hk1
    clear hN hk1
    go_enter Try.func19, Try.ntmps19
    go_wp2_with fail
    go_loopg [1, 5] n (fun g x i wr => ∃ (j : Nat) (y : Int) (xs : List Value), g = n - j ∧ j ≤ n ∧ i = .int .i64 (j : Int) ∧ x = .int .i64 y ∧ 0 < y ∧ y ≤ 1099511627776 ∧ Hid (y = k + 3 * (j : Int)) ∧ wr.ownsRow B 54 3 (.slice (some ⟨b, 0, none⟩) n cap) n xs ∧ Hid (Marked termL markTerm 3 k j xs) ∧ w.grownBy wr (some b))
    case atStart => exact ⟨0, k, xs0, rfl, by omega, rfl, rfl, by omega, by have := HB.out; omega, by simp [Hid], h, (fun j hj => by omega : Marked termL markTerm 3 k 0 xs0), ⟨rfl, rfl, rfl, Nat.le_refl _, fun _ _ _ => rfl⟩⟩
    case round =>
      clear h
      obtain ⟨j, x, xs, hg, hj, rfl, rfl, hx0, hx1, HX, hown, HM, hG⟩ := hrel
      by_cases hlt : (j : Int) < (n : Int)
      · have hj' : j < n := by omega
        have HJ : Hid (j * 3 + 3 ≤ n * 3) := by unfold Hid; omega
        have hx2 : x + 3 ≤ 1099511627776 := by have := HB.out; have := HX.out; omega
        go_wp2_with (first | (refine store_own rfl 3 _ _ rfl rfl b (j * 3) (.int .i64 (x)) rfl rfl size1_int rfl hown (by have := HJ.out; omega) ?_; intro w1 own1 hg1 hs1) | (refine store_own rfl 3 _ _ rfl rfl b (j * 3 + 1) (.int .i64 (x + 1)) rfl rfl size1_int rfl own1 (by have := HJ.out; omega) ?_; intro w2 own2 hg2 hs2) | (refine store_own rfl 3 _ _ rfl rfl b (j * 3 + 2) (.int .i64 (x + 1 + 1)) rfl rfl size1_int rfl own2 (by have := HJ.out; omega) ?_; intro w3 own3 hg3 hs3))
        go_roundg (n - (j + 1))
        case measure => omega
        case rel =>
          have hbb := HB.out
          refine ⟨j + 1, x + 3, _, rfl, by omega, congrArg (Value.int .i64) (by unfold wrap64; omega), congrArg (Value.int .i64) (by omega), by omega, hx2, by have := HX.out; unfold Hid; omega, own3, ?_, (grownX_trans (grownX_trans (grownX_trans hG hg1) hg2) hg3)⟩
          intro i hi q hq
          by_cases e : i = j
          · subst e
            have hxe : k + ((3 : Nat) : Int) * (i : Int) = x := by have := HX.out; omega
            rw [hxe]
            have hl1 := hown.1
            match q, hq with
            | 0, _ => simp [List.getElem?_set, termL, markTerm]; omega
            | 1, _ => simp [List.getElem?_set, termL, markTerm]; omega
            | 2, _ => simp [List.getElem?_set, termL, markTerm]; omega
          · exact (((HM.out.set (j * 3) (.int .i64 (x)) (by omega)).set (j * 3 + 1) (.int .i64 (x + 1)) (by omega)).set (j * 3 + 2) (.int .i64 (x + 1 + 1)) (by omega)) i (by omega) q hq
      · have hjn : j = n := by omega
        subst hjn
        have hxs := HM.out.all termL_len hown.1
        rw [hxs] at hown
        have HO := hideT' hown
        clear hown hxs
        have HXN : Hid (x = N) := by unfold Hid; rw [HX.out, HN.out]
        go_wp2
        go_ret
        refine ⟨by rw [← HN.out, ← HXN.out]; rfl, ?_, hG⟩
        have := HO.out
        unfold OwnR
        rw [markL_len]
        exact this
end Go.Proofs.Ytnnhedncdpfiaaa

/-
  Nodes that came in as an argument: what their reading says of the cells.
-/
namespace Go.Proofs.Ytnnhedncdpfiaaa
open Go.ChangeShapes Go.WideShapes Go.ChangeAt Go.RowKit
set_option linter.unusedVariables false

def ndsOf (l : List (Int × Int × Int)) : List Nd := l.map fun x => ⟨x.1, x.2.1, x.2.2⟩
theorem tri_ndsOf (l : List (Int × Int × Int)) : tri (ndsOf l) = l := by
  unfold tri ndsOf triN
  rw [List.map_map]
  exact List.map_id' l
theorem ndsOf_len (l : List (Int × Int × Int)) : (ndsOf l).length = l.length := by simp [ndsOf]
theorem ndsOf_tri (l : List Nd) : ndsOf (tri l) = l := by
  unfold tri ndsOf triN
  rw [List.map_map]
  exact List.map_id' l
theorem RecAt.nds {w : World} {b : Nat} {T : TypeId} {l : List (Int × Int × Int)} (h : RecAt w b T termL l) : NdIn w (slR b l) (ndsOf l) := by
  unfold NdIn
  rw [tri_ndsOf]
  exact h.inR termL_len

theorem cells_intT : Try.prog.cellsOf 3 = 1 := by kernel_rfl
set_option maxRecDepth 100000 in
theorem open_term {H : Type} {enc : TypeId × Value → H} {W : World} (n : Nat) (cs : List Value) (x : DataW H × List MemPlace) (hl : cs.length = 3) (h : DataW.trod enc Try.prog W 0 (fun _ => true) true n 57 cs = some x) :
    ∃ d : Int × Int × Int, cs = termL d ∧ True := by
  obtain ⟨xs, m, _, _, _, hlen, hf⟩ := DataW.trod_struct Try.underlying57 h
  obtain ⟨a, b, c, rfl⟩ : ∃ a b c, cs = [a, b, c] := by
    match cs, hl with
    | [a, b, c], _ => exact ⟨a, b, c, rfl⟩
  obtain ⟨y0, y1, y2, rfl⟩ : ∃ y0 y1 y2, xs = [y0, y1, y2] := by
    match xs, hlen with
    | [y0, y1, y2], _ => exact ⟨y0, y1, y2, rfl⟩
  have g0 : DataW.trod enc Try.prog W 0 (fun _ => true) true m 3 (([a, b, c].drop 0).take (Try.prog.cellsOf 3)) = some y0 := by simpa using hf 0 _ rfl
  have g1 : DataW.trod enc Try.prog W 0 (fun _ => true) true m 3 (([a, b, c].drop 1).take (Try.prog.cellsOf 3)) = some y1 := by simpa using hf 1 _ rfl
  have g2 : DataW.trod enc Try.prog W 0 (fun _ => true) true m 3 (([a, b, c].drop 2).take (Try.prog.cellsOf 3)) = some y2 := by simpa using hf 2 _ rfl
  rw [cells_intT] at g0 g1 g2
  obtain ⟨k, e0, _, _⟩ := DataW.trod_int Try.underlying3 g0
  obtain ⟨u, e1, _, _⟩ := DataW.trod_int Try.underlying3 g1
  obtain ⟨t, e2, _, _⟩ := DataW.trod_int Try.underlying3 g2
  simp at e0 e1 e2
  exact ⟨(k, u, t), by rw [e0, e1, e2]; rfl, trivial⟩
theorem cells_lterm : Try.prog.cellsOf 57 = 3 := by kernel_rfl

set_option maxRecDepth 100000 in
theorem open_terms {H : Type} {enc : TypeId × Value → H} {W : World} {base : Nat} {v : Value} {d : DataW H} {ps : List MemPlace} (hval : Value.okWide Try.prog W .any base 22 v) (h : DataW.Trod enc Try.prog W 0 (fun _ => true) true 22 v d ps) :
    ∃ l : List (Int × Int × Int), SlR W v termL 3 l ∧ l.length ≤ maxLen := by
  obtain ⟨a0, len, cap, rfl⟩ := okWide_slice Try.underlying22 hval
  obtain ⟨fuel, hf⟩ := h
  obtain ⟨v', l, e1, hL, q1, q2⟩ := open_recs termL 3 (by decide) termL_len (fun _ => True) Try.underlying22 cells_lterm open_term hf
  have e2 : Value.slice a0 len cap = v' := by simpa [Value.cells] using e1
  rw [e2]
  exact ⟨l, hL, q2⟩
end Go.Proofs.Ytnnhedncdpfiaaa

/-
  Rows of Comb that are answers: what the laws' own helpers over them say.
-/
namespace Go.Proofs.Ytnnhedncdpfiaaa
open Go.RowKit
set_option linter.unusedVariables false
/-- One that is marked. -/
def markComb (k : Int) : Int × Int × Int := (k, k + 1, k + 1 + 1)
theorem runX_comb {o : Oper} {a : Act} {w : World} (x : Operand) (ho : o.op = .load 64 x) (b i : Nat) (hx : a.eval x = .pointer (some ⟨b, i * 3, none⟩)) (d : Int × Int × Int) (hD : w.rangeAt b (i * 3) (combL d)) :
    (execOp a.eval o).run Try.prog w = .ok (.value (.agg (combL d).toArray)) w := by
  have h := run_loadAt_mid (P := Try.prog) w b (i * 3) 64 (combL d) _ hD Try.underlying64 rfl zero_comb.2
  unfold execOp
  simp only [ho, hx, Sem.run_bind, h, Result.andThen_ok]
  rfl
set_option maxHeartbeats 1000000 in
set_option maxRecDepth 100000 in
theorem eqCombS_in (v1 v2 : Value) (l : List (Int × Int × Int)) (w : World) (hl : l.length ≤ 1048576) (h1 : InR w v1 combL 3 l) (h2 : InR w v2 combL 3 l) :
    Calls Try.prog 26 #[v1, v2] w fun e w' => e = .returned (.bool true) ∧ Below w.heap.size w w' := by
  obtain ⟨o1, cap1, rfl, h1⟩ := h1
  obtain ⟨o2, cap2, rfl, h2⟩ := h2
  rcases Classical.em (l = []) with rfl | hne
  · clear h1 h2
    go_enter Try.func26, Try.ntmps26
    go_wp2_with fail
    go_loopg [5] 0 (fun g i wr => i = .int .i64 0 ∧ wr = w)
    case atStart => exact ⟨rfl, rfl⟩
    case round =>
      obtain ⟨rfl, rfl⟩ := hrel
      go_wp2
      go_ret
      exact ⟨rfl, Below.refl _ _⟩
  obtain ⟨b1, rfl, hb1, h1⟩ := h1 hne
  obtain ⟨b2, rfl, hb2, h2⟩ := h2 hne
  have H1 := hideT' h1
  have H2 := hideT' h2
  clear h1 h2 hne
  go_enter Try.func26, Try.ntmps26
  go_wp2_with fail
  go_loopg [5] l.length (fun g i wr => ∃ k : Nat, g = l.length - k ∧ k ≤ l.length ∧ i = .int .i64 (k : Int) ∧ Below w.heap.size w wr)
  case atStart => exact ⟨0, rfl, by omega, rfl, Below.refl _ _⟩
  case round =>
    obtain ⟨k, hg, hk, rfl, hW⟩ := hrel
    by_cases hlt : (k : Int) < (l.length : Int)
    · have hk' : k < l.length := by omega
      obtain ⟨d, hd⟩ : ∃ d, d = l.getD k default := ⟨_, rfl⟩
      have HDM := hideT' hd
      have h1 := H1.out
      have h2 := H2.out
      clear hd
      have hrg : ∀ w', Below w.heap.size w w' → w'.rangeAt b1 (k * 3) (combL d) ∧ w'.rangeAt b2 (k * 3) (combL d) := fun w' hB => by
        refine ⟨fun j u hu => ?_, fun j u hu => ?_⟩
        · rw [hB.cell (p := ⟨b1, k * 3 + j, none⟩) hb1]; rw [HDM.out] at hu; exact h1 k j u hk' hu
        · rw [hB.cell (p := ⟨b2, k * 3 + j, none⟩) hb2]; rw [HDM.out] at hu; exact h2 k j u hk' hu
      have HRG := hideT' hrg
      have hS := hrg wr.drew (Below.drew hW)
      clear h1 h2 hrg
      go_wp2_with fail
      refine held_begin (fun w' => w'.rangeAt b1 (k * 3) (combL d) ∧ w'.rangeAt b2 (k * 3) (combL d)) (by kernel_rfl) ?_
      refine held_val 0 (some 17) rfl rfl (by kernel_rfl) (by kernel_rfl) (by kernel_rfl) noPanic_put rfl (.slice (some ⟨b1, 0, none⟩) l.length cap1) (fun _ => rfl) hS ?_
      simp only [Act.put, List.setIfInBounds_toArray, List.set_cons_zero, List.set_cons_succ]
      refine held_val 1 (some 18) rfl rfl (by kernel_rfl) (by kernel_rfl) (by kernel_rfl) noPanic_put rfl (.int .i64 (k : Int)) (fun _ => rfl) hS ?_
      simp only [Act.put, List.setIfInBounds_toArray, List.set_cons_zero, List.set_cons_succ]
      refine held_val 2 (some 19) rfl rfl (by kernel_rfl) (by kernel_rfl) (by kernel_rfl) noPanic_put rfl (.pointer (some ⟨b1, k * 3, none⟩)) (fun _ => by go_simp) hS ?_
      simp only [Act.put, List.setIfInBounds_toArray, List.set_cons_zero, List.set_cons_succ]
      refine held_valS 3 (some 20) rfl rfl (by kernel_rfl) (by kernel_rfl) (by kernel_rfl) noPanic_put rfl (.agg (combL d).toArray) (fun _ hw' => runX_comb _ rfl b1 k rfl d hw'.1) hS ?_
      simp only [Act.put, List.setIfInBounds_toArray, List.set_cons_zero, List.set_cons_succ]
      refine held_val 4 (some 21) rfl rfl (by kernel_rfl) (by kernel_rfl) (by kernel_rfl) noPanic_put rfl (.slice (some ⟨b2, 0, none⟩) l.length cap2) (fun _ => rfl) hS ?_
      simp only [Act.put, List.setIfInBounds_toArray, List.set_cons_zero, List.set_cons_succ]
      refine held_val 5 (some 22) rfl rfl (by kernel_rfl) (by kernel_rfl) (by kernel_rfl) noPanic_put rfl (.int .i64 (k : Int)) (fun _ => rfl) hS ?_
      simp only [Act.put, List.setIfInBounds_toArray, List.set_cons_zero, List.set_cons_succ]
      refine held_val 6 (some 23) rfl rfl (by kernel_rfl) (by kernel_rfl) (by kernel_rfl) noPanic_put rfl (.pointer (some ⟨b2, k * 3, none⟩)) (fun _ => by go_simp) hS ?_
      simp only [Act.put, List.setIfInBounds_toArray, List.set_cons_zero, List.set_cons_succ]
      refine held_valS 7 (some 24) rfl rfl (by kernel_rfl) (by kernel_rfl) (by kernel_rfl) noPanic_put rfl (.agg (combL d).toArray) (fun _ hw' => runX_comb _ rfl b2 k rfl d hw'.2) hS ?_
      simp only [Act.put, List.setIfInBounds_toArray, List.set_cons_zero, List.set_cons_succ]
      refine held_call 8 (some 25) (by kernel_rfl) rfl rfl rfl 49 #[.agg (combL d).toArray, .agg (combL d).toArray] (by go_simp) _ (eqComb_any d wr.drew) ?_
      rintro e w2 ⟨rfl, hW2⟩
      have hW2 : Below wr.heap.size wr w2 := ⟨hW2.os, hW2.tape, hW2.output, hW2.size, hW2.block⟩
      have hW3 := hW.trans (hW2.mono hW.size)
      have hS2 := HRG.out w2 hW3
      refine ⟨_, rfl, hS2, ?_⟩
      simp only [Act.put, List.setIfInBounds_toArray, List.set_cons_zero, List.set_cons_succ]
      refine held_val 9 (some 26) rfl rfl (by kernel_rfl) (by kernel_rfl) (by kernel_rfl) noPanic_put rfl (.bool false) (fun _ => by go_simp) hS2 ?_
      simp only [Act.put, List.setIfInBounds_toArray, List.set_cons_zero, List.set_cons_succ]
      refine wpAnyH_done (by kernel_rfl) ?_ _
      refine NoPanic.normal ?_
      go_wp2
      go_roundg (l.length - (k + 1))
      case measure => omega
      case rel => exact ⟨k + 1, rfl, by omega, by go_num, hW3⟩
    · go_wp2
      go_ret
      exact ⟨rfl, hW⟩
set_option maxHeartbeats 2000000 in
set_option maxRecDepth 100000 in
theorem markCombS_own (v : Value) (n : Nat) (xs0 : List Value) (k : Int) (B : Nat) (w : World) (hk0 : 0 < k) (hk1 : k + 3 * (n : Int) ≤ 1099511627776) (h : w.ownsRow B 64 3 v n xs0) :
    Calls Try.prog 29 #[v, .int .i64 k] w fun e w' => e = .returned (.int .i64 (k + 3 * (n : Int))) ∧ OwnR w' B v 64 combL 3 (markL markComb 3 k n) ∧ w.grownBy w' v.ownBlock := by
  rcases h.2 with ⟨rfl, rfl⟩ | ⟨b, cap, cur, rfl, hB, _⟩
  · have hx : k + 3 * ((0 : Nat) : Int) = k := by simp
    rw [hx]
    clear hx hk1
    go_enter Try.func29, Try.ntmps29
    go_wp2_with fail
    go_loopg [1, 5] 0 (fun g x i wr => x = .int .i64 k ∧ i = .int .i64 0 ∧ wr = w)
    case atStart => exact ⟨rfl, rfl, rfl⟩
    case round =>
      obtain ⟨rfl, rfl, rfl⟩ := hrel
      go_wp2
      go_ret
      exact ⟨rfl, by simpa [OwnR, markL] using World.ownsRow_nil _ _ _ _, ⟨rfl, rfl, rfl, Nat.le_refl _, fun _ _ _ => rfl⟩⟩
  · obtain ⟨N, hN⟩ : ∃ N : Int, N = k + 3 * (n : Int) := ⟨_, rfl⟩
    have HN := hideT' hN
    have HB := hideT' hk1
    clear hN hk1
    go_enter Try.func29, Try.ntmps29
    go_wp2_with fail
    go_loopg [1, 5] n (fun g x i wr => ∃ (j : Nat) (y : Int) (xs : List Value), g = n - j ∧ j ≤ n ∧ i = .int .i64 (j : Int) ∧ x = .int .i64 y ∧ 0 < y ∧ y ≤ 1099511627776 ∧ Hid (y = k + 3 * (j : Int)) ∧ wr.ownsRow B 64 3 (.slice (some ⟨b, 0, none⟩) n cap) n xs ∧ Hid (Marked combL markComb 3 k j xs) ∧ w.grownBy wr (some b))
    case atStart => exact ⟨0, k, xs0, rfl, by omega, rfl, rfl, by omega, by have := HB.out; omega, by simp [Hid], h, (fun j hj => by omega : Marked combL markComb 3 k 0 xs0), ⟨rfl, rfl, rfl, Nat.le_refl _, fun _ _ _ => rfl⟩⟩
    case round =>
      clear h
      obtain ⟨j, x, xs, hg, hj, rfl, rfl, hx0, hx1, HX, hown, HM, hG⟩ := hrel
      by_cases hlt : (j : Int) < (n : Int)
      · have hj' : j < n := by omega
        have HJ : Hid (j * 3 + 3 ≤ n * 3) := by unfold Hid; omega
        have hx2 : x + 3 ≤ 1099511627776 := by have := HB.out; have := HX.out; omega
        go_wp2_with (first | (refine store_own rfl 3 _ _ rfl rfl b (j * 3) (.int .i64 (x)) rfl rfl size1_int rfl hown (by have := HJ.out; omega) ?_; intro w1 own1 hg1 hs1) | (refine store_own rfl 3 _ _ rfl rfl b (j * 3 + 1) (.int .i64 (x + 1)) rfl rfl size1_int rfl own1 (by have := HJ.out; omega) ?_; intro w2 own2 hg2 hs2) | (refine store_own rfl 3 _ _ rfl rfl b (j * 3 + 2) (.int .i64 (x + 1 + 1)) rfl rfl size1_int rfl own2 (by have := HJ.out; omega) ?_; intro w3 own3 hg3 hs3))
        go_roundg (n - (j + 1))
        case measure => omega
        case rel =>
          have hbb := HB.out
          refine ⟨j + 1, x + 3, _, rfl, by omega, congrArg (Value.int .i64) (by unfold wrap64; omega), congrArg (Value.int .i64) (by omega), by omega, hx2, by have := HX.out; unfold Hid; omega, own3, ?_, (grownX_trans (grownX_trans (grownX_trans hG hg1) hg2) hg3)⟩
          intro i hi q hq
          by_cases e : i = j
          · subst e
            have hxe : k + ((3 : Nat) : Int) * (i : Int) = x := by have := HX.out; omega
            rw [hxe]
            have hl1 := hown.1
            match q, hq with
            | 0, _ => simp [List.getElem?_set, combL, markComb]; omega
            | 1, _ => simp [List.getElem?_set, combL, markComb]; omega
            | 2, _ => simp [List.getElem?_set, combL, markComb]; omega
          · exact (((HM.out.set (j * 3) (.int .i64 (x)) (by omega)).set (j * 3 + 1) (.int .i64 (x + 1)) (by omega)).set (j * 3 + 2) (.int .i64 (x + 1 + 1)) (by omega)) i (by omega) q hq
      · have hjn : j = n := by omega
        subst hjn
        have hxs := HM.out.all combL_len hown.1
        rw [hxs] at hown
        have HO := hideT' hown
        clear hown hxs
        have HXN : Hid (x = N) := by unfold Hid; rw [HX.out, HN.out]
        go_wp2
        go_ret
        refine ⟨by rw [← HN.out, ← HXN.out]; rfl, ?_, hG⟩
        have := HO.out
        unfold OwnR
        rw [markL_len]
        exact this
set_option maxHeartbeats 2000000 in
set_option maxRecDepth 100000 in
theorem heldCombS_in (v : Value) (n : Nat) (k : Int) (w : World) (hk0 : 0 < k) (hk1 : k + 3 * (n : Int) ≤ 1099511627776) (h : InR w v combL 3 (markL markComb 3 k n)) :
    Calls Try.prog 30 #[v, .int .i64 k] w fun e w' => e = .returned (.int .i64 (k + 3 * (n : Int))) ∧ Below w.heap.size w w' := by
  obtain ⟨o, cap, rfl, h⟩ := h
  rw [markL_len]
  rcases Nat.eq_zero_or_pos n with rfl | hn
  · have hx : k + 3 * ((0 : Nat) : Int) = k := by simp
    rw [hx]
    clear hx hk1 h
    go_enter Try.func30, Try.ntmps30
    go_wp2_with fail
    go_loopg [1, 5] 0 (fun g x i wr => x = .int .i64 k ∧ i = .int .i64 0 ∧ wr = w)
    case atStart => exact ⟨rfl, rfl, rfl⟩
    case round =>
      obtain ⟨rfl, rfl, rfl⟩ := hrel
      go_wp2
      go_ret
      exact ⟨rfl, Below.refl _ _⟩
  obtain ⟨b, rfl, hb, h1⟩ := h (by intro e; have := congrArg List.length e; rw [markL_len] at this; simp at this; omega)
  obtain ⟨N, hN⟩ : ∃ N : Int, N = k + 3 * (n : Int) := ⟨_, rfl⟩
  have HN := hideT' hN
  have HB := hideT' hk1
  have H1 := hideT' h1
  clear hN hk1 h1 h
  go_enter Try.func30, Try.ntmps30
  go_wp2_with fail
  go_loopg [1, 5] n (fun g x i wr => ∃ (j : Nat) (y : Int), g = n - j ∧ j ≤ n ∧ i = .int .i64 (j : Int) ∧ x = .int .i64 y ∧ 0 < y ∧ y ≤ 1099511627776 ∧ Hid (y = k + 3 * (j : Int)) ∧ Below w.heap.size w wr)
  case atStart => exact ⟨0, k, rfl, by omega, rfl, rfl, by omega, by have := HB.out; omega, by simp [Hid], Below.refl _ _⟩
  case round =>
    obtain ⟨j, x, hg, hj, rfl, rfl, hx0, hx1, HX, hW⟩ := hrel
    by_cases hlt : (j : Int) < (n : Int)
    · have hj' : j < n := by omega
      have hx2 : x + 3 ≤ 1099511627776 := by have := HB.out; have := HX.out; omega
      have hxe : k + ((3 : Nat) : Int) * (j : Int) = x := by have := HX.out; omega
      have hcell : ∀ q u, (combL (markComb x))[q]? = some u → wr.cell? ⟨b, j * 3 + q, none⟩ = some u := fun q u hu => by
        have := H1.out j q u (by rw [markL_len]; exact hj') (by rw [markL_get markComb 3 k n j hj', hxe]; exact hu)
        exact (hW.cell (p := ⟨b, j * 3 + q, none⟩) hb).trans this
      have c0 := hcell 0 (.int .i64 (x)) rfl
      have c1 := hcell 1 (.int .i64 (x + 1)) rfl
      have c2 := hcell 2 (.int .i64 (x + 1 + 1)) rfl
      rw [Nat.add_zero] at c0
      have HC := hideT' hcell
      clear hcell hxe
      go_wp2
      go_roundg (n - (j + 1))
      case measure => omega
      case rel =>
        have hbb := HB.out
        exact ⟨j + 1, x + 3, rfl, by omega, congrArg (Value.int .i64) (by unfold wrap64; omega), congrArg (Value.int .i64) (by omega), by omega, hx2, by have := HX.out; unfold Hid; omega, hW⟩
    · have hjn : j = n := by omega
      have HXN : Hid (x = N) := by unfold Hid; rw [HX.out, HN.out, hjn]
      go_wp2
      go_ret
      exact ⟨by rw [← HN.out, ← HXN.out]; rfl, hW⟩
end Go.Proofs.Ytnnhedncdpfiaaa

/-
  Nodes that came in as an argument: what their reading says of the cells.
-/
namespace Go.Proofs.Ytnnhedncdpfiaaa.CB
open Go.ChangeShapes Go.WideShapes Go.ChangeAt Go.RowKit
set_option linter.unusedVariables false

def ndsOf (l : List (Int × Int × Int)) : List Nd := l.map fun x => ⟨x.1, x.2.1, x.2.2⟩
theorem tri_ndsOf (l : List (Int × Int × Int)) : tri (ndsOf l) = l := by
  unfold tri ndsOf triN
  rw [List.map_map]
  exact List.map_id' l
theorem ndsOf_len (l : List (Int × Int × Int)) : (ndsOf l).length = l.length := by simp [ndsOf]
theorem ndsOf_tri (l : List Nd) : ndsOf (tri l) = l := by
  unfold tri ndsOf triN
  rw [List.map_map]
  exact List.map_id' l
theorem RecAt.nds {w : World} {b : Nat} {T : TypeId} {l : List (Int × Int × Int)} (h : RecAt w b T combL l) : NdIn w (slR b l) (ndsOf l) := by
  unfold NdIn
  rw [tri_ndsOf]
  exact h.inR combL_len

theorem cells_intT : Try.prog.cellsOf 3 = 1 := by kernel_rfl
set_option maxRecDepth 100000 in
theorem open_term {H : Type} {enc : TypeId × Value → H} {W : World} (n : Nat) (cs : List Value) (x : DataW H × List MemPlace) (hl : cs.length = 3) (h : DataW.trod enc Try.prog W 0 (fun _ => true) true n 67 cs = some x) :
    ∃ d : Int × Int × Int, cs = combL d ∧ True := by
  obtain ⟨xs, m, _, _, _, hlen, hf⟩ := DataW.trod_struct Try.underlying67 h
  obtain ⟨a, b, c, rfl⟩ : ∃ a b c, cs = [a, b, c] := by
    match cs, hl with
    | [a, b, c], _ => exact ⟨a, b, c, rfl⟩
  obtain ⟨y0, y1, y2, rfl⟩ : ∃ y0 y1 y2, xs = [y0, y1, y2] := by
    match xs, hlen with
    | [y0, y1, y2], _ => exact ⟨y0, y1, y2, rfl⟩
  have g0 : DataW.trod enc Try.prog W 0 (fun _ => true) true m 3 (([a, b, c].drop 0).take (Try.prog.cellsOf 3)) = some y0 := by simpa using hf 0 _ rfl
  have g1 : DataW.trod enc Try.prog W 0 (fun _ => true) true m 3 (([a, b, c].drop 1).take (Try.prog.cellsOf 3)) = some y1 := by simpa using hf 1 _ rfl
  have g2 : DataW.trod enc Try.prog W 0 (fun _ => true) true m 3 (([a, b, c].drop 2).take (Try.prog.cellsOf 3)) = some y2 := by simpa using hf 2 _ rfl
  rw [cells_intT] at g0 g1 g2
  obtain ⟨k, e0, _, _⟩ := DataW.trod_int Try.underlying3 g0
  obtain ⟨u, e1, _, _⟩ := DataW.trod_int Try.underlying3 g1
  obtain ⟨t, e2, _, _⟩ := DataW.trod_int Try.underlying3 g2
  simp at e0 e1 e2
  exact ⟨(k, u, t), by rw [e0, e1, e2]; rfl, trivial⟩
theorem cells_lterm : Try.prog.cellsOf 67 = 3 := by kernel_rfl

set_option maxRecDepth 100000 in
theorem open_terms {H : Type} {enc : TypeId × Value → H} {W : World} {base : Nat} {v : Value} {d : DataW H} {ps : List MemPlace} (hval : Value.okWide Try.prog W .any base 35 v) (h : DataW.Trod enc Try.prog W 0 (fun _ => true) true 35 v d ps) :
    ∃ l : List (Int × Int × Int), SlR W v combL 3 l ∧ l.length ≤ maxLen := by
  obtain ⟨a0, len, cap, rfl⟩ := okWide_slice Try.underlying35 hval
  obtain ⟨fuel, hf⟩ := h
  obtain ⟨v', l, e1, hL, q1, q2⟩ := open_recs combL 3 (by decide) combL_len (fun _ => True) Try.underlying35 cells_lterm open_term hf
  have e2 : Value.slice a0 len cap = v' := by simpa [Value.cells] using e1
  rw [e2]
  exact ⟨l, hL, q2⟩
end Go.Proofs.Ytnnhedncdpfiaaa.CB
