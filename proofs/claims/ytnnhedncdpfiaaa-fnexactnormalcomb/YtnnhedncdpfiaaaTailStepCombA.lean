/-
  The texts StepMath, CbAbs, ImplRedB, SpecRed, MarkComb, CbTermArg, CbImplChange, StepT, CbCon, CbFirst, CbHeadS, CbStepS, CbStpT, one behind the other, as one.
-/
import Derived.Test.YtnnhedncdpfiaaaCombMath
import Derived.Test.YtnnhedncdpfiaaaTailCombOfTermB
import Derived.Test.YtnnhedncdpfiaaaImplRed
import Derived.Maps.OwnIn
import Derived.Test.YtnnhedncdpfiaaaSpecGoodT
import Derived.Test.YtnnhedncdpfiaaaRecs2
import Derived.Test.YtnnhedncdpfiaaaRecComb
import Derived.Test.YtnnhedncdpfiaaaRecArg
import Derived.Test.YtnnhedncdpfiaaaCbTreeMem
import Derived.Lib.Walk
import Derived.Lib.SliceRun
import Derived.OwnWalk
import Derived.WalkMore

/-
  Steps of combinators, and where the first one is made (plain).
-/
namespace Go.Proofs.Ytnnhedncdpfiaaa.CB
set_option linter.unusedVariables false

/-- What comes of a combinator whose head takes just all that stands behind it. -/
def Lm.hd : Lm → Option Lm
  | .app (.var .i) c => some c
  | .app (.app (.var .k) b) _ => some b
  | .app (.app (.app (.var .s) a) b) c => some (.app (.app a c) (.app b c))
  | _ => none
def Lm.stp : Lm → Option Lm
  | .var _ => none
  | .app f x => match (Lm.app f x).hd with
    | some r => some r
    | none => match f.stp with
      | some f' => some (.app f' x)
      | none => x.stp.map (Lm.app f)
/-- How many parts its head is applied to, and the head. -/
def Lm.spn : Lm → Nat
  | .var _ => 0
  | .app f _ => f.spn + 1
def Lm.hl : Lm → Leaf
  | .var c => c
  | .app f _ => f.hl
def Leaf.ar : Leaf → Nat
  | .v _ => 0
  | .s => 3
  | .k => 2
  | .i => 1
def Lm.isR (t : Lm) : Bool := t.hd.isSome
theorem Lm.spn_sz : ∀ t : Lm, t.spn < t.sz
  | .var _ => by simp [Lm.spn, Lm.sz]
  | .app f x => by have := f.spn_sz; simp only [Lm.spn, Lm.sz]; omega
theorem Lm.isR_iff (t : Lm) : t.isR = true ↔ 0 < t.spn ∧ t.spn = t.hl.ar := by
  match t with
  | .var c => simp [Lm.isR, Lm.hd, Lm.spn]
  | .app (.var c) x => cases c <;> simp [Lm.isR, Lm.hd, Lm.spn, Lm.hl, Leaf.ar]
  | .app (.app (.var c) y) x => cases c <;> simp [Lm.isR, Lm.hd, Lm.spn, Lm.hl, Leaf.ar]
  | .app (.app (.app (.var c) z) y) x => cases c <;> simp [Lm.isR, Lm.hd, Lm.spn, Lm.hl, Leaf.ar]
  | .app (.app (.app (.app f v) z) y) x =>
    have h : f.hl.ar ≤ 3 := by cases f.hl <;> simp [Leaf.ar]
    simp only [Lm.isR, Lm.hd, Lm.spn, Lm.hl, Option.isSome_none, Bool.false_eq_true, false_iff]
    omega
/-- The number of the first node that is a step's. -/
def Lm.frst : Lm → Option Nat
  | .var _ => none
  | .app f x => if (Lm.app f x).isR = true then some 0 else match f.frst with
    | some k => some (k + 1)
    | none => x.frst.map fun k => k + f.sz + 1
def con (t : Lm) : Lm := t.hd.getD t
theorem Lm.frst_lt : ∀ {t : Lm} {k : Nat}, t.frst = some k → k < t.sz
  | .var _, k, h => by cases h
  | .app f x, k, h => by
    rw [Lm.frst] at h
    split at h
    · injection h with h; subst h; simp [Lm.sz]
    · split at h
      · next k1 h1 => injection h with h; subst h; have := Lm.frst_lt h1; simp only [Lm.sz]; omega
      · next h1 =>
        cases hx : x.frst with
        | none => rw [hx] at h; cases h
        | some k2 => rw [hx] at h; injection h with h; subst h; have := Lm.frst_lt hx; simp only [Lm.sz]; omega
theorem Lm.stp_var (c : Leaf) : (Lm.var c).stp = none := rfl
theorem Lm.stp_hd {f x r : Lm} (h : (Lm.app f x).hd = some r) : (Lm.app f x).stp = some r := by rw [Lm.stp, h]
theorem Lm.stp_one {f x f' : Lm} (h : (Lm.app f x).hd = none) (h1 : f.stp = some f') : (Lm.app f x).stp = some (.app f' x) := by rw [Lm.stp, h, h1]
theorem Lm.stp_two {f x x' : Lm} (h : (Lm.app f x).hd = none) (h1 : f.stp = none) (h2 : x.stp = some x') : (Lm.app f x).stp = some (.app f x') := by rw [Lm.stp, h, h1, h2]; rfl
theorem Lm.stp_non {f x : Lm} (h : (Lm.app f x).hd = none) (h1 : f.stp = none) (h2 : x.stp = none) : (Lm.app f x).stp = none := by rw [Lm.stp, h, h1, h2]; rfl
theorem Lm.hd_sz {t r : Lm} (h : t.hd = some r) : r.sz ≤ 2 * t.sz := by
  match t with
  | .var c => cases h
  | .app (.var c) x => cases c <;> simp [Lm.hd] at h <;> subst h <;> simp only [Lm.sz] <;> omega
  | .app (.app (.var c) y) x => cases c <;> simp [Lm.hd] at h <;> subst h <;> simp only [Lm.sz] <;> omega
  | .app (.app (.app (.var c) z) y) x => cases c <;> simp [Lm.hd] at h <;> subst h <;> simp only [Lm.sz] <;> omega
  | .app (.app (.app (.app f v) z) y) x => simp [Lm.hd] at h
theorem Lm.hd_dp {t r : Lm} (h : t.hd = some r) : r.dp ≤ t.dp + 1 := by
  match t with
  | .var c => cases h
  | .app (.var c) x => cases c <;> simp [Lm.hd] at h <;> subst h <;> simp only [Lm.dp] <;> omega
  | .app (.app (.var c) y) x => cases c <;> simp [Lm.hd] at h <;> subst h <;> simp only [Lm.dp] <;> omega
  | .app (.app (.app (.var c) z) y) x => cases c <;> simp [Lm.hd] at h <;> subst h <;> simp only [Lm.dp] <;> omega
  | .app (.app (.app (.app f v) z) y) x => simp [Lm.hd] at h
theorem Lm.hd_ok {t r : Lm} (h : t.hd = some r) (ho : t.ok = true) : r.ok = true := by
  match t with
  | .var c => cases h
  | .app (.var c) x => cases c <;> simp [Lm.hd] at h <;> subst h <;> simp_all [Lm.ok]
  | .app (.app (.var c) y) x => cases c <;> simp [Lm.hd] at h <;> subst h <;> simp_all [Lm.ok]
  | .app (.app (.app (.var c) z) y) x => cases c <;> simp [Lm.hd] at h <;> subst h <;> simp_all [Lm.ok]
  | .app (.app (.app (.app f v) z) y) x => simp [Lm.hd] at h
theorem Lm.stp_ok : ∀ {t r : Lm}, t.stp = some r → t.ok = true → r.ok = true
  | .var _, r, h, ho => by cases h
  | .app f x, r, h, ho => by
    have ho' := ho
    simp only [Lm.ok, Bool.and_eq_true] at ho'
    rw [Lm.stp] at h
    split at h
    · next r1 h1 => injection h with h; subst h; exact Lm.hd_ok h1 ho
    · split at h
      · next f1 h1 => injection h with h; subst h; simp only [Lm.ok, Bool.and_eq_true]; exact ⟨Lm.stp_ok h1 ho'.1, ho'.2⟩
      · cases hx : x.stp with
        | none => rw [hx] at h; cases h
        | some x1 => rw [hx] at h; injection h with h; subst h; simp only [Lm.ok, Bool.and_eq_true]; exact ⟨ho'.1, Lm.stp_ok hx ho'.2⟩
theorem Lm.stp_sz : ∀ {t r : Lm}, t.stp = some r → r.sz ≤ 2 * t.sz
  | .var _, r, h => by cases h
  | .app f x, r, h => by
    rw [Lm.stp] at h
    split at h
    · next r1 h1 => injection h with h; subst h; exact Lm.hd_sz h1
    · split at h
      · next f1 h1 => injection h with h; subst h; have := Lm.stp_sz h1; simp only [Lm.sz]; omega
      · cases hx : x.stp with
        | none => rw [hx] at h; cases h
        | some x1 => rw [hx] at h; injection h with h; subst h; have := Lm.stp_sz hx; simp only [Lm.sz]; omega
theorem Lm.stp_dp : ∀ {t r : Lm}, t.stp = some r → r.dp ≤ t.dp + 1
  | .var _, r, h => by cases h
  | .app f x, r, h => by
    rw [Lm.stp] at h
    split at h
    · next r1 h1 => injection h with h; subst h; exact Lm.hd_dp h1
    · split at h
      · next f1 h1 => injection h with h; subst h; have := Lm.stp_dp h1; simp only [Lm.dp]; omega
      · cases hx : x.stp with
        | none => rw [hx] at h; cases h
        | some x1 => rw [hx] at h; injection h with h; subst h; have := Lm.stp_dp hx; simp only [Lm.dp]; omega
theorem Lm.frst_none : ∀ t : Lm, t.frst = none ↔ t.stp = none
  | .var _ => by simp [Lm.frst, Lm.stp]
  | .app f x => by
    have h1 := f.frst_none
    have h2 := x.frst_none
    rw [Lm.frst, Lm.stp]
    cases hh : (Lm.app f x).hd with
    | some r => simp [Lm.isR, hh]
    | none =>
      simp only [Lm.isR, hh, Option.isSome_none, Bool.false_eq_true, if_false]
      cases hf : f.frst with
      | some k =>
        cases hs : f.stp with
        | some f1 => simp
        | none => rw [h1.2 hs] at hf; cases hf
      | none => rw [h1.1 hf]; simp [h2]
end Go.Proofs.Ytnnhedncdpfiaaa.CB

/-
  What abstracted of the program and both AbstractComb answer.
-/
namespace Go.Proofs.Ytnnhedncdpfiaaa.CB
open Go.RowKit BL
set_option linter.unusedVariables false

set_option maxHeartbeats 1000000 in
theorem combLetter_any (c : Leaf) (hc : c.nm = 0) (w : World) :
    Calls Try.prog 79 #[.int .i64 c.kd] w fun e w' => (∃ b, e = .returned (.pointer (some ⟨b, 0, none⟩)) ∧ TrIn w' (fun x => w.heap.size ≤ x) (.var c) b) ∧ Below w.heap.size w w' := by
  have hz := zero_comb.1
  have hK : KidsAt w (fun _ => False) (.slice none 0 0) [] := ⟨none, 0, rfl, fun h => absurd rfl h, fun p hp => by simp at hp⟩
  have HK := hideT' hK
  have HN := hideT' (nodeOf_var c)
  rw [hc] at HN
  obtain ⟨k, hk⟩ : ∃ k, k = c.kd := ⟨_, rfl⟩
  rw [← hk] at HN ⊢
  clear hK hk
  go_enter Try.func79, Try.ntmps79
  go_wp2_with fail
  refine (treeOf_any k 0 0 _ [] w HK.out.pts (by simp) (by simp)).mono ?_
  intro e w2 hN
  obtain ⟨b', rfl, hbb, hTr, hB2⟩ := treeNew_at (t := .var c) HK.out HN.out hN
  have HF : Hid (TrIn w2 (fun x => w.heap.size ≤ x) (.var c) b' ∧ Below w.heap.size w w2) := ⟨TrIn.mono (fun x hx _ => by rcases hx with hx | hx; exact hx.elim; exact hx) hTr, hB2⟩
  clear hN hTr hB2
  go_wp2
  go_ret
  exact ⟨⟨b', rfl, HF.out.1⟩, HF.out.2⟩
set_option maxHeartbeats 2000000 in
theorem applied_any (s t : Lm) (b1 b2 : Nat) (P : Nat → Prop) (w : World) (h1 : TrIn w P s b1) (h2 : TrIn w P t b2) (hs : s.sz ≤ 1000000) (ht : t.sz ≤ 1000000) :
    Calls Try.prog 78 #[.pointer (some ⟨b1, 0, none⟩), .pointer (some ⟨b2, 0, none⟩)] w fun e w' => (∃ b, e = .returned (.pointer (some ⟨b, 0, none⟩)) ∧ TrIn w' (fun x => P x ∨ w.heap.size ≤ x) (.app s t) b) ∧ Below w.heap.size w w' := by
  have hz := zero_comb.1
  obtain ⟨W, hWd⟩ : ∃ W, W = w.alloc (.cells #[.pointer (some ⟨b1, 0, none⟩), .pointer (some ⟨b2, 0, none⟩)] 68) := ⟨_, rfl⟩
  have hB : Below w.heap.size w W := by rw [hWd]; exact (Below.refl _ _).alloc (Nat.le_refl _) _
  have hR : RowAt W w.heap.size 68 #[.pointer (some ⟨b1, 0, none⟩), .pointer (some ⟨b2, 0, none⟩)] := by rw [hWd]; exact RowAt.new _ _ _
  have hK : KidsAt W (fun x => P x ∨ w.heap.size ≤ x) (.slice (some ⟨w.heap.size, 0, none⟩) 2 2) [(b1, s), (b2, t)] := by
    refine ⟨_, 2, rfl, fun _ => ⟨w.heap.size, rfl, ⟨hR.lt, .inr (Nat.le_refl _)⟩, fun i p hi => ?_⟩, fun p hp => ?_⟩
    · match i, hi with
      | 0, hi => cases hi; rw [cell_of_row _ _ _ _ _ _ hR]; rfl
      | 1, hi => cases hi; rw [cell_of_row _ _ _ _ _ _ hR]; rfl
      | i + 2, hi => simp at hi
    · simp only [List.mem_cons, List.not_mem_nil, or_false] at hp
      rcases hp with rfl | rfl
      · exact TrIn.keep (w := w) hB.size (fun x _ hx => hB.block x hx) (fun x h _ => .inl h) h1
      · exact TrIn.keep (w := w) hB.size (fun x _ hx => hB.block x hx) (fun x h _ => .inl h) h2
  have HK := hideT' hK
  have HB := hideT' hB
  have HPS : Hid (∀ p ∈ ptsOf [(b1, s), (b2, t)], p.2.1 ≤ 1000000 ∧ p.2.2 ≤ 1000000) := by
    intro p hp
    have := s.dp_sz
    have := t.dp_sz
    simp only [ptsOf, List.map_cons, List.map_nil, List.mem_cons, List.not_mem_nil, or_false] at hp
    rcases hp with rfl | rfl <;> simp only <;> omega
  clear hK hB hR h1 h2
  go_enter Try.func78, Try.ntmps78
  go_wp2_with fail
  rw [← hWd]
  refine (treeOf_any 2 0 0 _ (ptsOf [(b1, s), (b2, t)]) W HK.out.pts (by simp [ptsOf]) HPS.out).mono ?_
  intro e w2 hN
  obtain ⟨b', rfl, hbb, hTr, hB2⟩ := treeNew_at (t := .app s t) HK.out (by simp [nodeOf]) hN
  have HF : Hid (TrIn w2 (fun x => P x ∨ w.heap.size ≤ x) (.app s t) b' ∧ Below w.heap.size w w2) := ⟨TrIn.mono (fun x hx _ => by rcases hx with hx | hx; exact hx; exact .inr (by have := HB.out.size; omega)) hTr, HB.out.trans (hB2.mono HB.out.size)⟩
  clear hN hTr hB2 hWd
  go_wp2
  go_ret
  exact ⟨⟨b', rfl, HF.out.1⟩, HF.out.2⟩
def AbC (x : Int) (N : Nat) : Prop := ∀ (t : Lm), t.sz ≤ N → ∀ (b : Nat) (P : Nat → Prop) (w : World), TrIn w P t b → t.sz ≤ 1000 →
    Calls Try.prog 54 #[.pointer (some ⟨b, 0, none⟩), .int .i64 x] w fun e w' => (∃ b', e = .returned (.pointer (some ⟨b', 0, none⟩)) ∧ TrIn w' (fun y => P y ∨ w.heap.size ≤ y) (t.abs x) b') ∧ Below w.heap.size w w'
set_option maxHeartbeats 8000000 in
set_option maxRecDepth 100000 in
theorem abstracted_step (x : Int) (N : Nat) (IH : ∀ n, n < N → AbC x n) : AbC x N := by
  intro t ht b P w hT hsz
  have HT := hideT' hT
  have HIH := hideT' IH
  have HTN := hideT' ht
  have HC := hideT' (hasVariable_any t b x P w hT (by omega))
  obtain ⟨r, hr⟩ : ∃ r, r = t.has x := ⟨_, rfl⟩
  rw [← hr] at HC
  have HR := hideT' hr
  clear IH ht hr hT
  go_enter Try.func54, Try.ntmps54
  go_wp2_with fail
  refine HC.out.mono ?_
  rintro e w1 ⟨rfl, hB1⟩
  have HB1 := hideT' hB1
  have hT1 : TrIn w1 (fun y => P y ∧ y < w.heap.size) t b := TrIn.keep (w := w) hB1.size (fun y _ hy => hB1.block y hy) (fun y h hy => ⟨h, hy⟩) HT.out
  have HT1 := hideT' hT1
  clear hB1
  cases r with
  | false =>
    have HE := hideT' (Lm.abs_no HR.out.symm)
    have HC2 := hideT' (combLetter_any .k rfl w1)
    clear hT1
    unfold Leaf.kd at HC2
    go_wp2_with fail
    refine HC2.out.mono ?_
    rintro e w2 ⟨⟨b2, rfl, hT2⟩, hB2⟩
    have hs2 := hB2.size
    have HC3 := hideT' (applied_any (.var .k) t b2 b (fun y => (P y ∧ y < w.heap.size) ∨ w1.heap.size ≤ y) w2 (TrIn.mono (fun y h _ => .inr h) hT2) (TrIn.keep (w := w1) hB2.size (fun y _ hy => hB2.block y hy) (fun y h _ => .inl h) HT1.out) (by simp [Lm.sz]) (by omega))
    have HB2 : Hid (Below w.heap.size w w2) := HB1.out.trans (hB2.mono HB1.out.size)
    have HS2 : Hid (w.heap.size ≤ w1.heap.size) := HB1.out.size
    clear hT2 hB2 hs2
    go_wp2_with fail
    refine HC3.out.mono ?_
    rintro e w3 ⟨⟨b3, rfl, hT3⟩, hB3⟩
    have HF : Hid (TrIn w3 (fun y => P y ∨ w.heap.size ≤ y) (.app (.var .k) t) b3 ∧ Below w.heap.size w w3) := ⟨TrIn.mono (fun y hy _ => by have := HS2.out; have := HB2.out.size; rcases hy with (hy | hy) | hy; exact .inl hy.1; exact .inr (by omega); exact .inr (by omega)) hT3, HB2.out.trans (hB3.mono HB2.out.size)⟩
    clear hT3 hB3
    go_wp2
    go_ret
    exact ⟨⟨b3, rfl, by rw [HE.out]; exact HF.out.1⟩, HF.out.2⟩
  | true =>
    have HC2 := hideT' (isVariable_any t b x _ w1 hT1)
    rcases has_kd1 HR.out.symm with hk1 | ⟨s, u, hsu⟩
    · have HE : Hid (t.abs x = .var .i ∧ t.isV x = true) := by
        cases t with
        | var c => exact ⟨Lm.abs_var HR.out.symm, HR.out.symm⟩
        | app a b => simp [Lm.kd] at hk1
      rw [HE.out.2] at HC2
      have HC3 := hideT' (combLetter_any .i rfl w1)
      unfold Leaf.kd at HC3
      clear hT1 hk1
      go_wp2_with fail
      refine HC2.out.mono ?_
      rintro e w2 ⟨rfl, hw2⟩
      rw [hw2]
      clear hw2
      go_wp2_with fail
      refine HC3.out.mono ?_
      rintro e w3 ⟨⟨b3, rfl, hT3⟩, hB3⟩
      have HF : Hid (TrIn w3 (fun y => P y ∨ w.heap.size ≤ y) (.var .i) b3 ∧ Below w.heap.size w w3) := ⟨TrIn.mono (fun y hy _ => .inr (by have := HB1.out.size; omega)) hT3, HB1.out.trans (hB3.mono HB1.out.size)⟩
      clear hT3 hB3
      go_wp2
      go_ret
      exact ⟨⟨b3, rfl, by rw [HE.out.1]; exact HF.out.1⟩, HF.out.2⟩
    · subst hsu
      have HV0 : Hid ((Lm.app s u).isV x = false) := rfl
      rw [HV0.out] at HC2
      obtain ⟨o, c, hpc, hkid⟩ := hT1.parts
      simp only [Lm.kids, List.length_cons, List.length_nil, Nat.zero_add, Nat.reduceAdd] at hpc
      obtain ⟨g, bs, rfl, hg, _, hcs, hTs⟩ := hkid 0 s rfl
      obtain ⟨g', bu, e', _, _, hcu, hTu⟩ := hkid 1 u rfl
      cases e'
      have hbl := hT1.lt
      simp only [Lm.sz] at hsz
      have HSU := hideT' (And.intro hTs hTu)
      have HCU : Hid (∀ k, Calls Try.prog 58 #[.pointer (some ⟨bu, 0, none⟩), .int .i64 x] (w1.drewN k) fun e w' => e = .returned (.bool (u.isV x)) ∧ w' = w1.drewN k) := fun k => isVariable_any u bu x _ (w1.drewN k) (hTu.drN k)
      have HCS : Hid (∀ k, Calls Try.prog 77 #[.pointer (some ⟨bs, 0, none⟩), .int .i64 x] (w1.drewN k) fun e w' => e = .returned (.bool (s.has x)) ∧ Below w1.heap.size w1 w') := fun k => (hasVariable_any s bs x _ (w1.drewN k) (hTs.drN k) (by omega)).mono fun e w' h => ⟨h.1, ⟨h.2.os, h.2.tape, h.2.output, h.2.size, h.2.block⟩⟩
      obtain ⟨ru, hru⟩ : ∃ ru, ru = u.isV x := ⟨_, rfl⟩
      obtain ⟨rs, hrs⟩ : ∃ rs, rs = s.has x := ⟨_, rfl⟩
      rw [← hru] at HCU
      rw [← hrs] at HCS
      have HRSU := hideT' (And.intro hrs hru)
      have HREC : Hid (∀ w2, Below w1.heap.size w1 w2 → Calls Try.prog 79 #[.int .i64 3] w2 fun e w' => (∃ b, e = .returned (.pointer (some ⟨b, 0, none⟩)) ∧ TrIn w' (fun x => w2.heap.size ≤ x) (.var .s) b) ∧ Below w2.heap.size w2 w') := fun w2 _ => combLetter_any .s rfl w2
      clear hT1 hkid hTs hTu hru hrs
      go_wp2_with fail
      refine HC2.out.mono ?_
      rintro e w2 ⟨rfl, hw2⟩
      rw [hw2]
      clear hw2
      go_wp2_with fail
      go_quiet (fail)
      go_wp2_with fail
      refine (HCU.out _).mono ?_
      rintro e w3 ⟨rfl, hw3⟩
      cases ru with
      | true =>
        rw [hw3]
        clear hw3
        go_wp2_with fail
        refine (HCS.out _).mono ?_
        rintro e w4 ⟨rfl, hB4⟩
        cases rs with
        | false =>
          have HE : Hid ((Lm.app s u).abs x = s) := Lm.abs_eta HR.out.symm (by rw [← HRSU.out.1, ← HRSU.out.2]; rfl)
          have HF : Hid (TrIn w4 (fun y => P y ∨ w.heap.size ≤ y) s bs ∧ Below w.heap.size w w4) := ⟨TrIn.keep (w := w1) hB4.size (fun y _ hy => hB4.block y hy) (fun y h _ => .inl h.1) HSU.out.1, HB1.out.trans (hB4.mono HB1.out.size)⟩
          clear hB4
          go_wp2
          go_ret
          exact ⟨⟨bs, rfl, by rw [HE.out]; exact HF.out.1⟩, HF.out.2⟩
        | true =>
          have HE : Hid ((Lm.app s u).abs x = .app (.app (.var .s) (s.abs x)) (u.abs x)) := Lm.abs_app HR.out.symm (by rw [← HRSU.out.1, ← HRSU.out.2]; rfl)
          have HB4 := hideT' hB4
          clear hB4
          have hs4 := HB4.out.size
          have HC5 := hideT' (combLetter_any .s rfl w4)
          unfold Leaf.kd at HC5
          go_wp2_with fail
          refine HC5.out.mono ?_
          rintro e w5 ⟨⟨b5, rfl, hT5⟩, hB5⟩
          have hs5 := hB5.size
          have hB15 : Below w1.heap.size w1 w5 := HB4.out.trans (hB5.mono HB4.out.size)
          have HB15 := hideT' hB15
          have HT5 := hideT' hT5
          have HC6 := hideT' (HIH.out s.sz (by have := HTN.out; simp only [Lm.sz] at this; omega) s (Nat.le_refl _) bs (fun y => P y ∧ y < w.heap.size) w5 (TrIn.below hB15 HSU.out.1) (by omega))
          clear hT5 hB5 hB15
          go_wp2_with fail
          refine HC6.out.mono ?_
          rintro e w6 ⟨⟨b6, rfl, hT6⟩, hB6⟩
          have hs6 := hB6.size
          have hz6 := Lm.abs_sz x s
          have HC7 := hideT' (applied_any (.var .s) (s.abs x) b5 b6 (fun y => (P y ∧ y < w.heap.size) ∨ w4.heap.size ≤ y) w6 (TrIn.keep (w := w5) hB6.size (fun y _ hy => hB6.block y hy) (fun y h _ => .inr h) HT5.out) (TrIn.mono (fun y h _ => h.imp id (fun h => by omega)) hT6) (by simp [Lm.sz]) (by omega))
          have HB16 : Hid (Below w1.heap.size w1 w6) := HB15.out.trans (hB6.mono HB15.out.size)
          clear hT6 hB6
          go_wp2_with fail
          refine HC7.out.mono ?_
          rintro e w7 ⟨⟨b7, rfl, hT7⟩, hB7⟩
          have hs7 := hB7.size
          have hB17 : Below w1.heap.size w1 w7 := HB16.out.trans (hB7.mono HB16.out.size)
          have HB17 := hideT' hB17
          have HT7 := hideT' hT7
          have HC8 := hideT' (HIH.out u.sz (by have := HTN.out; simp only [Lm.sz] at this; omega) u (Nat.le_refl _) bu (fun y => P y ∧ y < w.heap.size) w7 (TrIn.below hB17 HSU.out.2) (by omega))
          clear hT7 hB7 hB17
          go_wp2_with fail
          refine HC8.out.mono ?_
          rintro e w8 ⟨⟨b8, rfl, hT8⟩, hB8⟩
          have hs8 := hB8.size
          have hz8 := Lm.abs_sz x u
          have HC9 := hideT' (applied_any (.app (.var .s) (s.abs x)) (u.abs x) b7 b8 (fun y => (P y ∧ y < w.heap.size) ∨ w4.heap.size ≤ y) w8 (TrIn.keep (w := w7) hB8.size (fun y _ hy => hB8.block y hy) (fun y h _ => by rcases h with h | h; exact h; exact .inr (by omega)) HT7.out) (TrIn.mono (fun y h _ => h.imp id (fun h => by omega)) hT8) (by simp only [Lm.sz]; omega) (by omega))
          have HB18 : Hid (Below w1.heap.size w1 w8) := HB17.out.trans (hB8.mono HB17.out.size)
          clear hT8 hB8
          go_wp2_with fail
          refine HC9.out.mono ?_
          rintro e w9 ⟨⟨b9, rfl, hT9⟩, hB9⟩
          have HF : Hid (TrIn w9 (fun y => P y ∨ w.heap.size ≤ y) (.app (.app (.var .s) (s.abs x)) (u.abs x)) b9 ∧ Below w.heap.size w w9) := ⟨TrIn.mono (fun y hy _ => by have := HB1.out.size; rcases hy with (hy | hy) | hy; exact .inl hy.1; exact .inr (by omega); exact .inr (by omega)) hT9, (HB1.out.trans (HB18.out.mono HB1.out.size)).trans (hB9.mono (by have := HB1.out.size; omega))⟩
          clear hT9 hB9
          go_wp2
          go_ret
          exact ⟨⟨b9, rfl, by rw [HE.out]; exact HF.out.1⟩, HF.out.2⟩
      | false =>
        have HE : Hid ((Lm.app s u).abs x = .app (.app (.var .s) (s.abs x)) (u.abs x)) := Lm.abs_app HR.out.symm (by rw [← HRSU.out.2]; rfl)
        have HB4 : Hid (Below w1.heap.size w1 w3) := by unfold Hid; rw [hw3]; exact below_drN (Below.refl _ _) _
        obtain ⟨w4, hw4⟩ : ∃ w4, w4 = w3 := ⟨_, rfl⟩
        rw [← hw4] at HB4 ⊢
        clear hw3 hw4
        have hs4 := HB4.out.size
        have HC5 := hideT' (combLetter_any .s rfl w4)
        unfold Leaf.kd at HC5
        go_wp2_with fail
        refine HC5.out.mono ?_
        rintro e w5 ⟨⟨b5, rfl, hT5⟩, hB5⟩
        have hs5 := hB5.size
        have hB15 : Below w1.heap.size w1 w5 := HB4.out.trans (hB5.mono HB4.out.size)
        have HB15 := hideT' hB15
        have HT5 := hideT' hT5
        have HC6 := hideT' (HIH.out s.sz (by have := HTN.out; simp only [Lm.sz] at this; omega) s (Nat.le_refl _) bs (fun y => P y ∧ y < w.heap.size) w5 (TrIn.below hB15 HSU.out.1) (by omega))
        clear hT5 hB5 hB15
        go_wp2_with fail
        refine HC6.out.mono ?_
        rintro e w6 ⟨⟨b6, rfl, hT6⟩, hB6⟩
        have hs6 := hB6.size
        have hz6 := Lm.abs_sz x s
        have HC7 := hideT' (applied_any (.var .s) (s.abs x) b5 b6 (fun y => (P y ∧ y < w.heap.size) ∨ w4.heap.size ≤ y) w6 (TrIn.keep (w := w5) hB6.size (fun y _ hy => hB6.block y hy) (fun y h _ => .inr h) HT5.out) (TrIn.mono (fun y h _ => h.imp id (fun h => by omega)) hT6) (by simp [Lm.sz]) (by omega))
        have HB16 : Hid (Below w1.heap.size w1 w6) := HB15.out.trans (hB6.mono HB15.out.size)
        clear hT6 hB6
        go_wp2_with fail
        refine HC7.out.mono ?_
        rintro e w7 ⟨⟨b7, rfl, hT7⟩, hB7⟩
        have hs7 := hB7.size
        have hB17 : Below w1.heap.size w1 w7 := HB16.out.trans (hB7.mono HB16.out.size)
        have HB17 := hideT' hB17
        have HT7 := hideT' hT7
        have HC8 := hideT' (HIH.out u.sz (by have := HTN.out; simp only [Lm.sz] at this; omega) u (Nat.le_refl _) bu (fun y => P y ∧ y < w.heap.size) w7 (TrIn.below hB17 HSU.out.2) (by omega))
        clear hT7 hB7 hB17
        go_wp2_with fail
        refine HC8.out.mono ?_
        rintro e w8 ⟨⟨b8, rfl, hT8⟩, hB8⟩
        have hs8 := hB8.size
        have hz8 := Lm.abs_sz x u
        have HC9 := hideT' (applied_any (.app (.var .s) (s.abs x)) (u.abs x) b7 b8 (fun y => (P y ∧ y < w.heap.size) ∨ w4.heap.size ≤ y) w8 (TrIn.keep (w := w7) hB8.size (fun y _ hy => hB8.block y hy) (fun y h _ => by rcases h with h | h; exact h; exact .inr (by omega)) HT7.out) (TrIn.mono (fun y h _ => h.imp id (fun h => by omega)) hT8) (by simp only [Lm.sz]; omega) (by omega))
        have HB18 : Hid (Below w1.heap.size w1 w8) := HB17.out.trans (hB8.mono HB17.out.size)
        clear hT8 hB8
        go_wp2_with fail
        refine HC9.out.mono ?_
        rintro e w9 ⟨⟨b9, rfl, hT9⟩, hB9⟩
        have HF : Hid (TrIn w9 (fun y => P y ∨ w.heap.size ≤ y) (.app (.app (.var .s) (s.abs x)) (u.abs x)) b9 ∧ Below w.heap.size w w9) := ⟨TrIn.mono (fun y hy _ => by have := HB1.out.size; rcases hy with (hy | hy) | hy; exact .inl hy.1; exact .inr (by omega); exact .inr (by omega)) hT9, (HB1.out.trans (HB18.out.mono HB1.out.size)).trans (hB9.mono (by have := HB1.out.size; omega))⟩
        clear hT9 hB9
        go_wp2
        go_ret
        exact ⟨⟨b9, rfl, by rw [HE.out]; exact HF.out.1⟩, HF.out.2⟩
theorem abstracted_all (x : Int) : ∀ N, AbC x N := by
  intro N
  induction N using Nat.strongRecOn with
  | _ N IH => exact abstracted_step x N IH
def AbT (l : List Nd) (x : Int) : Option Lm := match readP' l with
  | some t => if 0 ≤ x ∧ x ≤ 999 then some (t.abs x) else none
  | _ => none
theorem AbT_l {l : List Nd} {k : Int} (h : readP' l = none) : AbT l k = none := by unfold AbT; rw [h]
theorem AbT_k {l : List Nd} {k : Int} (h : ¬ (0 ≤ k ∧ k ≤ 999)) : AbT l k = none := by unfold AbT; cases readP' l <;> simp [h]
theorem AbT_ok {l : List Nd} {k : Int} {t : Lm} (h1 : readP' l = some t) (h : 0 ≤ k ∧ k ≤ 999) : AbT l k = some (t.abs k) := by unfold AbT; rw [h1]; simp [h]
set_option maxHeartbeats 4000000 in
theorem implAbstractComb_any (l : List Nd) (k : Int) (v : Value) (w : World) (hv : NdIn w v l) (hl : l.length ≤ 1048576) :
    Calls Try.prog 28 #[v, .int .i64 k] w fun e w' => TOut w (AbT l k) e w' ∧ Below w.heap.size w w' := by
  have HC := hideT' (readTree_any l v w hv hl)
  clear hv
  go_enter Try.func28, Try.ntmps28
  go_wp2_with fail
  refine HC.out.mono ?_
  rintro e w1 ⟨hans, hB1⟩
  have HB1 := hideT' hB1
  clear hB1
  rcases hans with ⟨p, rfl, hn⟩ | ⟨t, b, rfl, hr, hT⟩
  · have HN := hideT' (AbT_l (k := k) hn)
    clear hn
    go_wp2
    go_ret2
    exact ⟨TOut.bad HN.out, HB1.out⟩
  · have f1 := readP'_facts hr
    by_cases hk : 0 ≤ k ∧ k ≤ 999
    · have HN := hideT' (AbT_ok hr hk)
      obtain ⟨hk1, hk2⟩ := hk
      have HC3 := hideT' (abstracted_all k t.sz t (Nat.le_refl _) b _ w1 hT (by omega))
      have HSZ : Hid ((t.abs k).sz ≤ 1000000) := by unfold Hid; have := Lm.abs_sz k t; omega
      clear hr hT f1
      go_wp2_with fail
      refine HC3.out.mono ?_
      rintro e w3 ⟨⟨b3, rfl, hT3⟩, hB3⟩
      have HB3 : Hid (Below w.heap.size w w3) := HB1.out.trans (hB3.mono HB1.out.size)
      have HC4 := hideT' (tellTree_any _ b3 _ w3 hT3 HSZ.out)
      clear hT3 hB3
      go_wp2_with fail
      refine HC4.out.mono ?_
      rintro e w4 ⟨hT4, hB4⟩
      obtain ⟨u4, rfl, hO4⟩ := hT4
      have HF : Hid (TOut w (AbT l k) (.returned (.tuple #[u4, .bool (t.abs k).good])) w4 ∧ Below w.heap.size w w4) := ⟨ToldT.out (t := t.abs k) ⟨u4, rfl, hO4⟩ HB3.out.size HN.out, HB3.out.trans (hB4.mono HB3.out.size)⟩
      obtain ⟨q, hq⟩ : ∃ q, q = (t.abs k).good := ⟨_, rfl⟩
      rw [← hq] at HF ⊢
      clear hq hO4 hB4
      go_wp2
      go_ret2
      exact HF.out
    · have HN := hideT' (AbT_k (l := l) hk)
      clear hr hT f1
      by_cases h0 : k < 0
      · go_wp2
        go_ret2
        exact ⟨TOut.bad HN.out, HB1.out⟩
      · have h9 : 999 < k := by omega
        go_wp2
        go_ret2
        exact ⟨TOut.bad HN.out, HB1.out⟩
set_option maxHeartbeats 4000000 in
theorem specAbstractComb_any (l : List Nd) (k : Int) (v : Value) (w : World) (hv : NdIn w v l) (hl : l.length ≤ 1048576) :
    Calls Try.prog 27 #[v, .int .i64 k] w fun e w' => TOut w (AbT l k) e w' ∧ Below w.heap.size w w' := by
  have HV := hideT' hv
  have HC := hideT' (specGoodComb_any l v w hv hl)
  clear hv
  cases hr : readP' l with
  | none =>
    have HN := hideT' (AbT_l (k := k) hr)
    rw [goodS_none hr] at HC
    clear hr
    go_enter Try.func27, Try.ntmps27
    go_wp2_with fail
    refine HC.out.mono ?_
    rintro e w1 ⟨rfl, hB1⟩
    go_wp2
    go_ret2
    exact ⟨TOut.bad HN.out, hB1⟩
  | some t =>
    rw [goodS_some hr] at HC
    have HR := hideT' hr
    clear hr
    go_enter Try.func27, Try.ntmps27
    go_wp2_with fail
    refine HC.out.mono ?_
    rintro e w2 ⟨rfl, hB2⟩
    have HB2 := hideT' hB2
    clear hB2
    go_wp2_with fail
    refine (l1In_any k 0 999 _).mono ?_
    rintro e w3 ⟨rfl, hw3⟩
    rw [hw3]
    clear hw3
    by_cases hk : 0 ≤ k ∧ k ≤ 999
    · have HN := hideT' (AbT_ok HR.out hk)
      rw [decide_eq_true hk.1, decide_eq_true hk.2]
      clear hk
      have HC3 := hideT' (lcTree_whole l t v w2 (HV.out.below HB2.out) HR.out)
      go_wp2_with fail
      refine HC3.out.mono ?_
      rintro e w4 ⟨⟨z4, rfl, hz4⟩, hB4⟩
      have HB4 : Hid (Below w.heap.size w w4) := HB2.out.trans (hB4.mono HB2.out.size)
      have HC5 := hideT' (ldAbstract_all k t.sz t (Nat.le_refl _) z4 _ w4 hz4)
      clear hB4 hz4
      go_wp2_with fail
      refine HC5.out.mono ?_
      rintro e w6 ⟨⟨z6, rfl, hz6⟩, hB6⟩
      have HB6 : Hid (Below w.heap.size w w6) := HB4.out.trans (hB6.mono HB4.out.size)
      have HC6 := hideT' (lcTold_any (t.abs k) z6 _ w6 hz6)
      clear hB6 hz6
      go_wp2_with fail
      refine HC6.out.mono ?_
      rintro e w7 ⟨hT4, hB4⟩
      obtain ⟨u4, rfl, hO4⟩ := hT4
      have HF : Hid (TOut w (AbT l k) (.returned (.tuple #[u4, .bool (t.abs k).good])) w7 ∧ Below w.heap.size w w7) := ⟨ToldT.out (t := t.abs k) ⟨u4, rfl, hO4⟩ HB6.out.size HN.out, HB6.out.trans (hB4.mono HB6.out.size)⟩
      obtain ⟨q, hq⟩ : ∃ q, q = (t.abs k).good := ⟨_, rfl⟩
      rw [← hq] at HF ⊢
      clear hq hO4 hB4
      go_wp2
      go_ret2
      exact HF.out
    · have HN := hideT' (AbT_k (l := l) hk)
      have hbb : (decide (0 ≤ k) && decide (k ≤ 999)) = false := by simpa using hk
      rw [hbb]
      clear hbb hk
      go_wp2
      go_ret2
      exact ⟨TOut.bad HN.out, HB2.out⟩
end Go.Proofs.Ytnnhedncdpfiaaa.CB

/-
  What redexesIn of the program answers.
-/
namespace Go.Proofs.Ytnnhedncdpfiaaa
open Go.RowKit Go.Shelf BL
set_option linter.unusedVariables false
attribute [local go_sem] Oper.semAt_some

/-- How a round of redexesIn begins. -/
def redAct (w : World) (b sb : Nat) (x : Spot × Nat) : Act := { tmps := #[.pointer (some ⟨b, 0, none⟩), undef, .slice none 0 0, .pointer (some ⟨w.heap.size, 0, none⟩), .pointer (some ⟨sb, 0, none⟩), .pointer (some ⟨x.2, 0, none⟩), .pointer (some ⟨b, 0, none⟩), .func (.func 87) #[] #[.pointer (some ⟨w.heap.size + 1, 0, none⟩)], .agg #[.int .i64 (x.1.at_ : Int), .int .i64 x.1.up, .int .i64 (x.1.lam : Int)], .pointer (some ⟨x.2, 0, none⟩), undef, undef, undef, undef, undef, undef, undef, undef], defers := [] }
set_option maxRecDepth 100000 in
set_option maxHeartbeats 8000000 in
theorem redexesIn_any (t : Lm) (b : Nat) (P : Nat → Prop) (w : World) (hT : TrIn w P t b) (hs : t.sz ≤ 1000000) :
    Calls Try.prog 45 #[.pointer (some ⟨b, 0, none⟩)] w fun e w' => (∃ u, e = .returned u ∧ OwnR w' w.heap.size u 3 intL 1 (natsI t.reds)) ∧ Below w.heap.size w w' := by
  refine (callsIn_wide (n := 4)).1 ?_
  have HT := hideT' hT
  clear hT
  refine callsIn_of_wp_marks Try.func45 rfl trivial ?_ rfl
  simp only [Try.ntmps45, List.size_toArray, List.length_cons, List.length_nil, Nat.reduceAdd, Nat.reduceSub, Array.replicate_succ, Array.replicate_zero, List.push_toArray, List.append_toArray, List.nil_append, List.cons_append]
  gi_wp2
  refine ⟨trivial, ?_⟩
  gi_at_call 68
  refine (callsIn_wide.2 (walk_any b _)).mono ?_
  rintro e w3 ⟨rfl, hw3⟩
  have hs3 : w3.heap.size = w.heap.size + 2 := by rw [hw3]; simp
  have hB3 : Below w.heap.size w w3 := by rw [hw3]; exact ((Below.refl _ _).alloc (Nat.le_refl _) _).alloc (by simp) _
  have hI0 : RedI w [] (fun z => z = w.heap.size) w3 := by
    refine ⟨.slice none 0 0, fun z => ?_, ?_, World.ownsRow_nil _ _ _ _, hB3⟩
    · simp [Value.ownBlock]
    · rw [hw3]; exact RowAt.old (RowAt.new _ _ _) _
  have hcx : w3.cell? ⟨w.heap.size + 1, 0, none⟩ = some (.pointer (some ⟨b, 0, none⟩)) := by
    have hr : RowAt w3 (w.heap.size + 1) 58 #[.pointer (some ⟨b, 0, none⟩)] := by
      rw [hw3]
      have := RowAt.new (w.alloc (.cells #[.slice none 0 0] 29)) 58 #[.pointer (some ⟨b, 0, none⟩)]
      rwa [World.size_alloc] at this
    rw [cell_of_row _ _ _ _ _ _ hr]; rfl
  have HI0 := hideT' hI0
  have HB3 := hideT' hB3
  have HCX := hideT' hcx
  clear hw3 hI0 hB3 hcx
  simp only [World.size_alloc]
  gi_wp2
  refine range_own (gf := 87) (lb := #[.pointer (some ⟨w.heap.size + 1, 0, none⟩)]) (by rfl) (enters_of Try.func87 (by kernel_rfl) rfl) encS (fun x => rfl) _ _ _ (walk_seq (w.heap.size + 1) t b hs)
    (fun pre x V V' W hVV h => ⟨h.1, TrIn.mono (fun z hz _ hv => hz (hVV z hv)) h.2⟩)
    (RedI w) (fun s V A h => h.lt) (fun s V A B row h hg hr => h.step hg (fun r e => ⟨(hr r e).1, by have := (hr r e).2; omega⟩)) (fun z => z = w.heap.size) HI0.out ?need
    (fun pre x V c W => ∃ sb, c = redAct w b sb x ∧ pre.length < t.sz ∧ (x.1.at_ < t.sz) ∧ RedI w pre V W ∧ RowAt W sb 106 #[.int .i64 (x.1.at_ : Int), .int .i64 x.1.up, .int .i64 (x.1.lam : Int)] ∧ ¬ V sb ∧ TrIn W (fun z => ¬ V z) x.1.t x.2) ?ax ?assign ?body ?done
  case need =>
    intro B V hg hV
    refine ⟨TrIn.keep (w := w) (P := P) (by have := hg.size; omega) (fun x _ hx => ?_) (fun x _ hx hv => ?_) HT.out, ?_⟩
    · rw [hg.block x (by omega) (by simp)]; exact HB3.out.block x hx
    · rcases hV x hv with h | h <;> omega
    · rw [World.cell?_of_block (w := w3) (a := ⟨w.heap.size + 1, 0, none⟩) (hg.block _ (by simp; omega) (by simp))]; exact HCX.out
  case ax =>
    rintro s x V c A B row ⟨sb, h1, hl, ha, h2, h3, h4, h5⟩ hg hr
    exact ⟨sb, h1, hl, ha, h2.step hg (fun r e => ⟨(hr r e).1.1, by have := (hr r e).1.2; omega⟩), TrIn.turn.row_same h3 hg (fun r e => (hr r e).2), h4, TrIn.turn hg (fun r e => (hr r e).2) h5⟩
  case assign =>
    intro l pre x V W K hNx hI hK
    have HI := hideT' hI
    have HK := hideT' hK
    have HNX := hideT' hNx
    unfold encS
    clear hI hK hNx
    gi_wp2
    have hal : Below W.heap.size W (W.alloc (.cells #[.int .i64 (x.1.at_ : Int), .int .i64 x.1.up, .int .i64 (x.1.lam : Int)] 106)) := (Below.refl _ _).alloc (Nat.le_refl _) _
    obtain ⟨⟨post, hpo⟩, hTx⟩ := HNX.out
    have hlen := congrArg List.length hpo
    rw [Lm.walk_len, List.length_append, List.length_map, List.length_cons] at hlen
    refine HK.out _ _ V ⟨W.heap.size, rfl, by omega, ?_, HI.out.step (row := none) ⟨hal.os, hal.tape, hal.output, hal.size, fun k hk _ => hal.block k hk⟩ (fun r e => by cases e), RowAt.new _ _ _, fun h => by have := HI.out.lt _ h; omega, TrIn.below hal hTx⟩ (MoreB.refl _ _) (KeepsB.below hal)
    have := (Lm.walk_sub t 0 (-1) 0 x.1 (by rw [hpo]; simp)).2.2.2.1
    omega
  case body =>
    rintro l pre x V c W ⟨sb, rfl, hpl, hat, hI, hR, hVs, hTx⟩
    unfold redAct
    obtain ⟨v, hV, hRv, hO, hB⟩ := hI
    obtain ⟨ov, cap, hvv⟩ := own_formT hO
    subst hvv
    have hls := redsOf_len pre
    have hra := redsOf_app pre x
    have hca : W.cell? ⟨sb, 0, none⟩ = some (.int .i64 (x.1.at_ : Int)) := by rw [cell_of_row _ _ _ _ _ _ hR]; rfl
    have hcv : W.cell? ⟨w.heap.size, 0, none⟩ = some (.slice ov (redsOf pre).length cap) := by rw [cell_of_row _ _ _ _ _ _ hRv]; rfl
    have HC := hideT' (isRedex_any x.1.t x.2 _ W hTx)
    obtain ⟨q, hq⟩ : ∃ q, q = x.1.t.isRed := ⟨_, rfl⟩
    rw [← hq] at HC hra
    have HV := hideT' hV
    have HRV := hideT' hRv
    have HO := hideT' hO
    have HB := hideT' hB
    have hsb := hR.lt
    have hwz := hRv.lt
    clear hV hRv hO hB hR hTx hq
    cases q with
    | false =>
      have HRA : Hid (redsOf (pre ++ [x]) = redsOf pre) := by unfold Hid; rw [hra]; simp
      clear hra
      gi_wp2
      refine ⟨trivial, ?_⟩
      gi_at_call 69
      refine (CallsIn.inRound l (callsIn_wide.2 HC.out)).mono ?_
      rintro e w4 ⟨rfl, rfl⟩
      gi_wp2
      exact ⟨V, ⟨_, HV.out, HRV.out, by rw [HRA.out]; exact HO.out, HB.out⟩, MoreB.refl _ _, KeepsB.refl _ _⟩
    | true =>
      have HRA : Hid (redsOf (pre ++ [x]) = redsOf pre ++ [(x.1.at_ : Int)]) := by unfold Hid; rw [hra]; simp
      clear hra
      obtain ⟨i0, hi, hz0, hz1, hz2⟩ := info_parts info_int
      gi_wp2
      refine ⟨trivial, ?_⟩
      gi_at_call 69
      refine (CallsIn.inRound l (callsIn_wide.2 HC.out)).mono ?_
      rintro e w4 ⟨rfl, rfl⟩
      have hwl : w.heap.size + 1 ≤ w4.heap.size := hwz
      gi_wp2_with (gi_at_builtin; refine wpListIn_append_own_at _ rfl _ _ 29 rfl (w.heap.size + 1) 3 i0 (.int .i64 0) 1 8 Try.underlying29 hi hz0 hz1 hz2 rfl (by decide) (.slice ov (redsOf pre).length cap) _ _ rfl (HO.out.alloc _) ⟨w4.heap.size, 0, none⟩ 1 1 [.int .i64 (x.1.at_ : Int)] rfl rfl (cell_one_new _ _ _) (oneT_cell _) (by unfold maxLen; omega) (by omega) (by simp; omega) ?_; intro v5 w5 hown5 hg5 _ hat5; obtain ⟨g5, cap5, rfl⟩ := ownsRow_succ hown5; have hbx5 := boxR_append (B := w.heap.size) (t := 29) HRV.out (by decide) HO.out hown5 hg5; have HBX5 := hideT' hbx5; have f5 : w5.cell? ⟨w.heap.size, 0, none⟩ = some (.slice ov (redsOf pre).length cap) := hbx5.1.cell; have fz5 : w5.frozen? ⟨w.heap.size, 0, none⟩ = false := hbx5.1.frozen; have HG5 := hideT' hg5; have HAT5 := hideT' hat5; clear hbx5 hg5 hat5)
      obtain ⟨_, q1, q2, q3, q4, q5, q6, q7, q8⟩ := HBX5.out
      have hob : ∀ z, z < w4.heap.size → ¬ V z → (w5.setCell ⟨w.heap.size, 0, none⟩ (.slice (some ⟨g5, 0, none⟩) ((redsOf pre).length + 1) cap5)).heap[z]? = w4.heap[z]? := fun z hz hv => by
        have h1 : z ≠ w.heap.size := fun e => hv ((HV.out z).2 (.inl e))
        rw [heap_setCell_other w5 ⟨w.heap.size, 0, none⟩ z _ (fun e => h1 e), HG5.out.block z (by simp; omega) (fun e => hv ((HV.out z).2 (.inr e.symm))), Below.heap_alloc _ _ _ hz]
      refine ⟨fun z => z = w.heap.size ∨ (Value.slice (some ⟨g5, 0, none⟩) ((redsOf pre).length + 1) cap5).ownBlock = some z, ⟨_, fun z => Iff.rfl, q1, ?_, ?_⟩, ?_, ⟨q4, fun z hz hv => hob z hz hv⟩⟩
      · unfold OwnR
        rw [HRA.out, List.length_append, List.length_singleton, List.flatMap_append]; exact q2
      · refine HB.out.trans ⟨q6, q7, q8, q4, fun j hj => ?_⟩
        exact hob j (by omega) (fun h => by
          rcases (HV.out j).1 h with e | e
          · omega
          · have := (HO.out.lt j e).1; omega)
      · intro z hz
        rcases hz with rfl | hz
        · exact .inl ((HV.out _).2 (.inl rfl))
        · rcases HAT5.out with h | h
          · exact .inl ((HV.out z).2 (.inr (by rw [← h]; exact hz)))
          · rw [h] at hz
            injection hz with hz
            rw [World.size_alloc] at hz
            exact .inr (by omega)
  case done =>
    rintro D ys V W hD hS ⟨v, hV, hRv, hO, hB⟩ hVD hK
    obtain ⟨ov, cap, hvv⟩ := own_formT hO
    subst hvv
    have hcv : W.cell? ⟨w.heap.size, 0, none⟩ = some (.slice ov (redsOf ys).length cap) := by rw [cell_of_row _ _ _ _ _ _ hRv]; rfl
    have HOW : Hid (W.ownsRow w.heap.size 3 1 (.slice ov (redsOf ys).length cap) (natsI t.reds).length ((natsI t.reds).flatMap intL)) := by
      unfold Hid
      rw [← redsOf_all hS]
      exact ⟨hO.1, hO.2.imp id fun ⟨g, cap, cur, h1, h2, h3⟩ => ⟨g, cap, cur, h1, by omega, h3⟩⟩
    have HW := hideT' hB
    have HKD := hideT' hK
    clear hO hB hK hRv
    gi_wp2
    refine leave_marks (v := .slice ov (redsOf ys).length cap) HKD.out (by simp [results, Try.results45, go_sem]) ⟨⟨_, rfl, ?_⟩, below_put HW.out (by omega) HW.out.size⟩
    exact ⟨HOW.out.1, HOW.out.2.imp id fun ⟨g, cap, cur, h1, h2, h3, h4⟩ => ⟨g, cap, cur, h1, h2, row_put h3 HKD.out rfl, h4⟩⟩
end Go.Proofs.Ytnnhedncdpfiaaa

/-
  What lcRedexes and RedexesIn of the model answer; RedexesIn of the program.
-/
namespace Go.Proofs.Ytnnhedncdpfiaaa
open Go.RowKit BL
set_option linter.unusedVariables false

theorem Seg.spot {l : List Nd} : ∀ {t : Lm} {a : Nat} {up : Int}, Seg l t a up → ∀ m, ∀ x ∈ t.walk a up m, ndAt l x.at_ = x.nd ∧ x.at_ + x.t.sz ≤ a + t.sz
  | .var n, a, up, h, m, x, hx => by
    simp only [Lm.walk, List.mem_singleton] at hx
    subst hx
    exact ⟨h.nd, Nat.le_refl _⟩
  | .lam t, a, up, h, m, x, hx => by
    rw [Lm.walk] at hx
    rcases List.mem_cons.1 hx with rfl | hx
    · exact ⟨h.nd, Nat.le_refl _⟩
    · have := Seg.spot h.2 _ x hx
      exact ⟨this.1, by have := this.2; simp only [Lm.sz]; omega⟩
  | .app s t, a, up, h, m, x, hx => by
    rw [Lm.walk] at hx
    rcases List.mem_cons.1 hx with rfl | hx
    · exact ⟨h.nd, Nat.le_refl _⟩
    · rcases List.mem_append.1 hx with hx | hx
      · have := Seg.spot h.2.1 _ x hx
        exact ⟨this.1, by have := this.2; simp only [Lm.sz]; omega⟩
      · have := Seg.spot h.2.2 _ x hx
        exact ⟨this.1, by have := this.2; simp only [Lm.sz]; omega⟩
/-- An application has a node behind it. -/
theorem flat_next (t : Lm) (k : Nat) (hk : k < t.sz) (h3 : (ndAt (t.flat 0 (-1)) k).k = 3) : k + 1 < t.sz := by
  have h1 : k ∈ (t.walk 0 (-1) 0).map Spot.at_ := by rw [Lm.walk_ats]; simp [List.mem_range']; omega
  obtain ⟨x, hx, rfl⟩ := List.mem_map.1 h1
  have h2 := Seg.spot (Seg.whole t) 0 x hx
  rw [h2.1] at h3
  simp only [Spot.nd] at h3
  cases hx' : x.t with
  | var n => rw [hx'] at h3; simp [Lm.kd] at h3
  | lam s => rw [hx'] at h3; simp [Lm.kd] at h3
  | app p q =>
    have h4 := h2.2
    rw [hx'] at h4
    simp only [Lm.sz] at h4
    have := p.sz_pos
    omega
def redsTo (l : List Nd) (k : Nat) : List Nat := (List.range k).filter (redN l)
theorem redsTo_succ (l : List Nd) (k : Nat) : redsTo l (k + 1) = redsTo l k ++ (if redN l k then [k] else []) := by
  unfold redsTo
  rw [List.range_succ, List.filter_append]
  congr 1
  cases h : redN l k <;> simp [List.filter, h]
theorem redsTo_le (l : List Nd) (k : Nat) : (redsTo l k).length ≤ k := by
  unfold redsTo
  exact Nat.le_trans (List.length_filter_le _ _) (by simp)

set_option maxHeartbeats 4000000 in
set_option maxRecDepth 100000 in
theorem lcRedexes_any (t : Lm) (v : Value) (w : World) (hv : NdIn w v (t.flat 0 (-1))) (hs : t.sz ≤ 1000000) :
    Calls Try.prog 44 #[v] w fun e w' => (∃ u, e = .returned u ∧ OwnR w' w.heap.size u 3 intL 1 (natsI t.reds)) ∧ Below w.heap.size w w' := by
  have HV := hideT' hv
  obtain ⟨o, cap, rfl⟩ := hv.len
  clear hv
  obtain ⟨i0, hi, hz0, hz1, hz2⟩ := info_parts info_int
  have hz := zero_term.1
  obtain ⟨l, hl⟩ : ∃ l, l = t.flat 0 (-1) := ⟨_, rfl⟩
  rw [← hl] at HV ⊢
  obtain ⟨n, hn⟩ : ∃ n, n = l.length := ⟨_, rfl⟩
  have HNS : Hid (n = t.sz) := by unfold Hid; rw [hn, hl, Lm.flat_sz]
  have HNX : Hid (∀ k, k < n → (ndAt l k).k = 3 → k + 1 < n) := fun k hk h3 => by rw [HNS.out]; exact flat_next t k (by rw [← HNS.out]; exact hk) (by rw [← hl]; exact h3)
  have HRE : Hid (redsTo l n = t.reds) := by
    unfold Hid
    rw [← redsN_flat, ← hl, hn]; rfl
  have HNN := hideT' hn
  have hn1 : n ≤ 1000000 := by rw [HNS.out]; exact hs
  rw [← hn]
  clear hn hl hs
  go_enter Try.func44, Try.ntmps44
  go_wp2_with fail
  go_loopg [3, 8] n (fun g x i wr => ∃ k : Nat, g = n - k ∧ k ≤ n ∧ i = .int .i64 (k : Int) ∧ OwnR wr w.heap.size x 3 intL 1 (natsI (redsTo l k)) ∧ Below w.heap.size w wr)
  case atStart => exact ⟨0, rfl, by omega, by go_num, World.ownsRow_nil _ _ _ _, Below.refl _ _⟩
  case round =>
    obtain ⟨k, hg, hk, rfl, hO, hW⟩ := hrel
    obtain ⟨o2, cap2, hv2⟩ := own_formT hO
    have HO := hideT' hO
    subst hv2
    by_cases hlt : (k : Int) < (n : Int)
    · obtain ⟨nd, hnd⟩ : ∃ nd, nd = ndAt l k := ⟨_, rfl⟩
      obtain ⟨b, rfl, hb, c0, c1, c2⟩ := (HV.out.below hW).cells (by have := HNN.out; omega) hnd
      have hb' : b < wr.heap.size := hb
      have hsucc := redsTo_succ l k
      have hpl := redsTo_le l k
      rw [← natsI_len] at hpl
      have HW := hideT' hW
      have hsz := hW.size
      have HKD : Hid ((ndAt l k).k = nd.k) := by unfold Hid; rw [hnd]
      clear hb hnd hO hW
      obtain ⟨kd, nm, u⟩ := nd
      simp only at c0 c1 c2 HKD
      have hAl : Below w.heap.size w (wr.alloc (.cells #[.int .i64 kd, .int .i64 nm, .int .i64 u] 54)) := HW.out.alloc hsz _
      have HAL := hideT' hAl
      clear hAl
      by_cases h3 : kd = 3
      · subst h3
        have hk1 := HNX.out k (by omega) HKD.out
        obtain ⟨nd2, hnd2⟩ : ∃ nd2, nd2 = ndAt l (k + 1) := ⟨_, rfl⟩
        obtain ⟨b2, e2, _, d0, _, _⟩ := (HV.out.below HW.out).cells (by have := HNN.out; omega) hnd2
        cases e2
        have HRN : Hid (redN l k = decide (nd2.k = 2)) := by unfold Hid redN; rw [HKD.out, ← hnd2]; simp
        clear hnd2
        obtain ⟨kd2, nm2, u2⟩ := nd2
        simp only at d0 HRN
        have hcast : ((k + 1 : Nat) : Int) = (k : Int) + 1 := by omega
        have HCA := hideT' hcast
        clear hcast
        by_cases h2 : kd2 = 2
        · have HS : Hid (natsI (redsTo l (k + 1)) = natsI (redsTo l k) ++ [(k : Int)]) := by unfold Hid; rw [hsucc, HRN.out, decide_eq_true h2]; simp [natsI]
          clear hsucc
          go_wp2_with (at_builtin; refine wpList_append_own _ rfl _ _ 29 rfl w.heap.size 3 i0 (.int .i64 0) 1 8 Try.underlying29 hi hz0 hz1 hz2 rfl (by decide) _ _ _ rfl ((HO.out.alloc _).alloc _) ⟨wr.heap.size + 1, 0, none⟩ 1 1 [.int .i64 (k : Int)] rfl rfl (by have := cell_one_new (wr.alloc (.cells #[.int .i64 3, .int .i64 nm, .int .i64 u] 54)) (.int .i64 (k : Int)) 3; rw [World.size_alloc] at this; exact this) (oneT_cell _) (by unfold maxLen; omega) (by omega) (by simp; omega) ?_; intro v' w4 hown' hgrow _)
          have hgb : ∀ g, (Value.slice o2 (natsI (redsTo l k)).length cap2).ownBlock = some g → w.heap.size ≤ g := fun g e => (HO.out.lt g e).1
          go_roundg (n - (k + 1))
          case measure => omega
          case rel =>
            refine ⟨k + 1, rfl, by omega, by go_num, ?_, ?_⟩
            · rw [HS.out]
              unfold OwnR
              rw [List.length_append, List.flatMap_append]
              exact hown'
            · exact (HAL.out.alloc (by simp; omega) _).grown hgrow (by simp; omega) (fun k hk => hgb _ hk)
        · have HS : Hid (natsI (redsTo l (k + 1)) = natsI (redsTo l k)) := by unfold Hid; rw [hsucc, HRN.out, decide_eq_false h2]; simp
          clear hsucc
          go_wp2
          go_roundg (n - (k + 1))
          case measure => omega
          case rel => exact ⟨k + 1, rfl, by omega, by go_num, by rw [HS.out]; exact HO.out.alloc _, HAL.out⟩
      · have HS : Hid (natsI (redsTo l (k + 1)) = natsI (redsTo l k)) := by unfold Hid; rw [hsucc]; unfold redN; rw [HKD.out, decide_eq_false h3]; simp
        clear hsucc
        go_wp2
        go_roundg (n - (k + 1))
        case measure => omega
        case rel => exact ⟨k + 1, rfl, by omega, by go_num, by rw [HS.out]; exact HO.out.alloc _, HAL.out⟩
    · have hkn : k = n := by omega
      subst hkn
      clear hO
      go_wp2
      go_ret
      exact ⟨⟨_, rfl, by rw [← HRE.out]; exact HO.out⟩, hW⟩

/-- The answer of both RedexesIn. -/
def RedB (l : List Nd) : Bool := goodS l
def RedL (l : List Nd) : List Int := match readP' l with | none => [] | some t => natsI t.reds
def RedOut (w : World) (l : List Nd) (e : Ending) (w' : World) : Prop :=
  ∃ u, e = .returned (.tuple #[u, .bool (RedB l)]) ∧ OwnR w' w.heap.size u 3 intL 1 (RedL l)
theorem own_keep' {w w' : World} {B n s : Nat} {T : TypeId} {v : Value} {xs : List Value} {row : Option Nat} (h : w.ownsRow B T s v n xs) (hg : w.grownBy w' row) (hr : ∀ g, v.ownBlock = some g → some g ≠ row) : w'.ownsRow B T s v n xs :=
  own_keep h (fun g e => hg.block g (h.lt g e).2 (hr g e))
theorem readP'_good {l : List Nd} {t : Lm} (h : readP' l = some t) : l = t.flat 0 (-1) ∧ t.sz ≤ 150 := by
  have := (readP'_iff l t).1 h
  exact ⟨this.1, (Lm.good_sz this.2).1⟩
theorem RedL_len (l : List Nd) : (RedL l).length ≤ 1048576 := by
  unfold RedL
  split
  · simp
  · next t h =>
    have h1 := (readP'_good h).2
    rw [natsI_len]
    unfold Lm.reds
    rw [List.length_map]
    have h2 := List.length_filter_le (fun x : Spot => x.t.isRed) (t.walk 0 (-1) 0)
    rw [Lm.walk_len] at h2
    omega
set_option maxHeartbeats 2000000 in
theorem specRedexesIn_any (l : List Nd) (v : Value) (w : World) (hv : NdIn w v l) (hl : l.length ≤ 1048576) :
    Calls Try.prog 16 #[v] w fun e w' => RedOut w l e w' ∧ Below w.heap.size w w' := by
  have HV := hideT' hv
  have HC := hideT' (specGoodTerm_any l v w hv hl)
  clear hv
  have hgr := goodS_read l
  cases hr : readP' l with
  | none =>
    rw [hr] at hgr
    have HG : Hid (goodS l = false) := hgr
    have HR := hideT' hr
    rw [HG.out] at HC
    clear hgr hr
    go_enter Try.func16, Try.ntmps16
    go_wp2_with fail
    refine HC.out.mono ?_
    rintro e w1 ⟨rfl, hB1⟩
    go_wp2
    go_ret2
    exact ⟨⟨.slice none 0 0, by unfold RedB; rw [HG.out]; rfl, by unfold RedL; rw [HR.out]; exact World.ownsRow_nil _ _ _ _⟩, hB1⟩
  | some t =>
    rw [hr] at hgr
    have HG : Hid (goodS l = true) := hgr
    have HR := hideT' hr
    rw [HG.out] at HC
    obtain ⟨hl1, hl2⟩ := readP'_good hr
    have HL := hideT' hl1
    clear hgr hr hl1
    go_enter Try.func16, Try.ntmps16
    go_wp2_with fail
    refine HC.out.mono ?_
    rintro e w1 ⟨rfl, hB1⟩
    have HC2 := hideT' (lcRedexes_any t v w1 (by have := HV.out.below hB1; rw [HL.out] at this; exact this) (by omega))
    go_wp2_with fail
    refine HC2.out.mono ?_
    rintro e w2 ⟨⟨u, rfl, hO⟩, hB2⟩
    have HF : Hid (OwnR w2 w.heap.size u 3 intL 1 (natsI t.reds) ∧ Below w.heap.size w w2) := ⟨⟨hO.1, hO.2.imp id fun ⟨g, cap, cur, h1, h2, h3⟩ => ⟨g, cap, cur, h1, Nat.le_trans hB1.size h2, h3⟩⟩, hB1.trans (hB2.mono hB1.size)⟩
    clear hO hB2
    go_wp2
    go_ret2
    exact ⟨⟨u, by unfold RedB; rw [HG.out]; rfl, by unfold RedL; rw [HR.out]; exact HF.out.1⟩, HF.out.2⟩
set_option maxHeartbeats 2000000 in
theorem implRedexesIn_any (l : List Nd) (v : Value) (w : World) (hv : NdIn w v l) (hl : l.length ≤ 1048576) :
    Calls Try.prog 17 #[v] w fun e w' => RedOut w l e w' ∧ Below w.heap.size w w' := by
  have HC := hideT' (readTree_any l v w hv hl)
  have hgr := goodS_read l
  clear hv
  go_enter Try.func17, Try.ntmps17
  go_wp2_with fail
  refine HC.out.mono ?_
  rintro e w1 ⟨hans, hB1⟩
  rcases hans with ⟨p, rfl, hn⟩ | ⟨t, b, rfl, hr, hT⟩
  · have HG : Hid (goodS l = false) := by unfold Hid; rw [hgr, hn]; rfl
    have HR := hideT' hn
    clear hgr hn
    go_wp2
    go_ret2
    exact ⟨⟨.slice none 0 0, by unfold RedB; rw [HG.out]; rfl, by unfold RedL; rw [HR.out]; exact World.ownsRow_nil _ _ _ _⟩, hB1⟩
  · have HG : Hid (goodS l = true) := by unfold Hid; rw [hgr, hr]; rfl
    obtain ⟨_, hl2⟩ := readP'_good hr
    have HR := hideT' hr
    have HC2 := hideT' (redexesIn_any t b _ w1 hT (by omega))
    clear hgr hr hT
    go_wp2_with fail
    refine HC2.out.mono ?_
    rintro e w2 ⟨⟨u, rfl, hO⟩, hB2⟩
    have HF : Hid (OwnR w2 w.heap.size u 3 intL 1 (natsI t.reds) ∧ Below w.heap.size w w2) := ⟨⟨hO.1, hO.2.imp id fun ⟨g, cap, cur, h1, h2, h3⟩ => ⟨g, cap, cur, h1, Nat.le_trans hB1.size h2, h3⟩⟩, hB1.trans (hB2.mono hB1.size)⟩
    clear hO hB2
    go_wp2
    go_ret2
    exact ⟨⟨u, by unfold RedB; rw [HG.out]; rfl, by unfold RedL; rw [HR.out]; exact HF.out.1⟩, HF.out.2⟩
end Go.Proofs.Ytnnhedncdpfiaaa

/-
  Rows of Comb that are answers: what the laws' own helpers over them say.
-/
namespace Go.Proofs.Ytnnhedncdpfiaaa
open Go.RowKit
set_option linter.unusedVariables false
/-- One that is marked. -/
def markComb (k : Int) : Int × Int × Int := (k, k + 1, k + 1 + 1)
theorem runX_comb {o : Oper} {a : Act} {w : World} (x : Operand) (ho : o.op = .load 64 x) (b i : Nat) (hx : a.eval x = .pointer (some ⟨b, i * 3, none⟩)) (d : Int × Int × Int) (hD : w.rangeAt b (i * 3) (combL d)) :
    (execOp a.eval o).run Try.prog w = .ok (.value (.agg (combL d).toArray)) w := by
  have h := run_loadAt_mid (P := Try.prog) w b (i * 3) 64 (combL d) _ hD Try.underlying64 rfl zero_comb.2
  unfold execOp
  simp only [ho, hx, Sem.run_bind, h, Result.andThen_ok]
  rfl
set_option maxHeartbeats 1000000 in
set_option maxRecDepth 100000 in
theorem eqCombS_in (v1 v2 : Value) (l : List (Int × Int × Int)) (w : World) (hl : l.length ≤ 1048576) (h1 : InR w v1 combL 3 l) (h2 : InR w v2 combL 3 l) :
    Calls Try.prog 26 #[v1, v2] w fun e w' => e = .returned (.bool true) ∧ Below w.heap.size w w' := by
  obtain ⟨o1, cap1, rfl, h1⟩ := h1
  obtain ⟨o2, cap2, rfl, h2⟩ := h2
  rcases Classical.em (l = []) with rfl | hne
  · clear h1 h2
    go_enter Try.func26, Try.ntmps26
    go_wp2_with fail
    go_loopg [5] 0 (fun g i wr => i = .int .i64 0 ∧ wr = w)
    case atStart => exact ⟨rfl, rfl⟩
    case round =>
      obtain ⟨rfl, rfl⟩ := hrel
      go_wp2
      go_ret
      exact ⟨rfl, Below.refl _ _⟩
  obtain ⟨b1, rfl, hb1, h1⟩ := h1 hne
  obtain ⟨b2, rfl, hb2, h2⟩ := h2 hne
  have H1 := hideT' h1
  have H2 := hideT' h2
  clear h1 h2 hne
  go_enter Try.func26, Try.ntmps26
  go_wp2_with fail
  go_loopg [5] l.length (fun g i wr => ∃ k : Nat, g = l.length - k ∧ k ≤ l.length ∧ i = .int .i64 (k : Int) ∧ Below w.heap.size w wr)
  case atStart => exact ⟨0, rfl, by omega, rfl, Below.refl _ _⟩
  case round =>
    obtain ⟨k, hg, hk, rfl, hW⟩ := hrel
    by_cases hlt : (k : Int) < (l.length : Int)
    · have hk' : k < l.length := by omega
      obtain ⟨d, hd⟩ : ∃ d, d = l.getD k default := ⟨_, rfl⟩
      have HDM := hideT' hd
      have h1 := H1.out
      have h2 := H2.out
      clear hd
      have hrg : ∀ w', Below w.heap.size w w' → w'.rangeAt b1 (k * 3) (combL d) ∧ w'.rangeAt b2 (k * 3) (combL d) := fun w' hB => by
        refine ⟨fun j u hu => ?_, fun j u hu => ?_⟩
        · rw [hB.cell (p := ⟨b1, k * 3 + j, none⟩) hb1]; rw [HDM.out] at hu; exact h1 k j u hk' hu
        · rw [hB.cell (p := ⟨b2, k * 3 + j, none⟩) hb2]; rw [HDM.out] at hu; exact h2 k j u hk' hu
      have HRG := hideT' hrg
      have hS := hrg wr.drew (Below.drew hW)
      clear h1 h2 hrg
      go_wp2_with fail
      refine held_begin (fun w' => w'.rangeAt b1 (k * 3) (combL d) ∧ w'.rangeAt b2 (k * 3) (combL d)) (by kernel_rfl) ?_
      refine held_val 0 (some 17) rfl rfl (by kernel_rfl) (by kernel_rfl) (by kernel_rfl) noPanic_put rfl (.slice (some ⟨b1, 0, none⟩) l.length cap1) (fun _ => rfl) hS ?_
      simp only [Act.put, List.setIfInBounds_toArray, List.set_cons_zero, List.set_cons_succ]
      refine held_val 1 (some 18) rfl rfl (by kernel_rfl) (by kernel_rfl) (by kernel_rfl) noPanic_put rfl (.int .i64 (k : Int)) (fun _ => rfl) hS ?_
      simp only [Act.put, List.setIfInBounds_toArray, List.set_cons_zero, List.set_cons_succ]
      refine held_val 2 (some 19) rfl rfl (by kernel_rfl) (by kernel_rfl) (by kernel_rfl) noPanic_put rfl (.pointer (some ⟨b1, k * 3, none⟩)) (fun _ => by go_simp) hS ?_
      simp only [Act.put, List.setIfInBounds_toArray, List.set_cons_zero, List.set_cons_succ]
      refine held_valS 3 (some 20) rfl rfl (by kernel_rfl) (by kernel_rfl) (by kernel_rfl) noPanic_put rfl (.agg (combL d).toArray) (fun _ hw' => runX_comb _ rfl b1 k rfl d hw'.1) hS ?_
      simp only [Act.put, List.setIfInBounds_toArray, List.set_cons_zero, List.set_cons_succ]
      refine held_val 4 (some 21) rfl rfl (by kernel_rfl) (by kernel_rfl) (by kernel_rfl) noPanic_put rfl (.slice (some ⟨b2, 0, none⟩) l.length cap2) (fun _ => rfl) hS ?_
      simp only [Act.put, List.setIfInBounds_toArray, List.set_cons_zero, List.set_cons_succ]
      refine held_val 5 (some 22) rfl rfl (by kernel_rfl) (by kernel_rfl) (by kernel_rfl) noPanic_put rfl (.int .i64 (k : Int)) (fun _ => rfl) hS ?_
      simp only [Act.put, List.setIfInBounds_toArray, List.set_cons_zero, List.set_cons_succ]
      refine held_val 6 (some 23) rfl rfl (by kernel_rfl) (by kernel_rfl) (by kernel_rfl) noPanic_put rfl (.pointer (some ⟨b2, k * 3, none⟩)) (fun _ => by go_simp) hS ?_
      simp only [Act.put, List.setIfInBounds_toArray, List.set_cons_zero, List.set_cons_succ]
      refine held_valS 7 (some 24) rfl rfl (by kernel_rfl) (by kernel_rfl) (by kernel_rfl) noPanic_put rfl (.agg (combL d).toArray) (fun _ hw' => runX_comb _ rfl b2 k rfl d hw'.2) hS ?_
      simp only [Act.put, List.setIfInBounds_toArray, List.set_cons_zero, List.set_cons_succ]
      refine held_call 8 (some 25) (by kernel_rfl) rfl rfl rfl 49 #[.agg (combL d).toArray, .agg (combL d).toArray] (by go_simp) _ (eqComb_any d wr.drew) ?_
      rintro e w2 ⟨rfl, hW2⟩
      have hW2 : Below wr.heap.size wr w2 := ⟨hW2.os, hW2.tape, hW2.output, hW2.size, hW2.block⟩
      have hW3 := hW.trans (hW2.mono hW.size)
      have hS2 := HRG.out w2 hW3
      refine ⟨_, rfl, hS2, ?_⟩
      simp only [Act.put, List.setIfInBounds_toArray, List.set_cons_zero, List.set_cons_succ]
      refine held_val 9 (some 26) rfl rfl (by kernel_rfl) (by kernel_rfl) (by kernel_rfl) noPanic_put rfl (.bool false) (fun _ => by go_simp) hS2 ?_
      simp only [Act.put, List.setIfInBounds_toArray, List.set_cons_zero, List.set_cons_succ]
      refine wpAnyH_done (by kernel_rfl) ?_ _
      refine NoPanic.normal ?_
      go_wp2
      go_roundg (l.length - (k + 1))
      case measure => omega
      case rel => exact ⟨k + 1, rfl, by omega, by go_num, hW3⟩
    · go_wp2
      go_ret
      exact ⟨rfl, hW⟩
set_option maxHeartbeats 2000000 in
set_option maxRecDepth 100000 in
theorem markCombS_own (v : Value) (n : Nat) (xs0 : List Value) (k : Int) (B : Nat) (w : World) (hk0 : 0 < k) (hk1 : k + 3 * (n : Int) ≤ 1099511627776) (h : w.ownsRow B 64 3 v n xs0) :
    Calls Try.prog 29 #[v, .int .i64 k] w fun e w' => e = .returned (.int .i64 (k + 3 * (n : Int))) ∧ OwnR w' B v 64 combL 3 (markL markComb 3 k n) ∧ w.grownBy w' v.ownBlock := by
  rcases h.2 with ⟨rfl, rfl⟩ | ⟨b, cap, cur, rfl, hB, _⟩
  · have hx : k + 3 * ((0 : Nat) : Int) = k := by simp
    rw [hx]
    clear hx hk1
    go_enter Try.func29, Try.ntmps29
    go_wp2_with fail
    go_loopg [1, 5] 0 (fun g x i wr => x = .int .i64 k ∧ i = .int .i64 0 ∧ wr = w)
    case atStart => exact ⟨rfl, rfl, rfl⟩
    case round =>
      obtain ⟨rfl, rfl, rfl⟩ := hrel
      go_wp2
      go_ret
      exact ⟨rfl, by simpa [OwnR, markL] using World.ownsRow_nil _ _ _ _, ⟨rfl, rfl, rfl, Nat.le_refl _, fun _ _ _ => rfl⟩⟩
  · obtain ⟨N, hN⟩ : ∃ N : Int, N = k + 3 * (n : Int) := ⟨_, rfl⟩
    have HN := hideT' hN
    have HB := hideT' hk1
    clear hN hk1
    go_enter Try.func29, Try.ntmps29
    go_wp2_with fail
    go_loopg [1, 5] n (fun g x i wr => ∃ (j : Nat) (y : Int) (xs : List Value), g = n - j ∧ j ≤ n ∧ i = .int .i64 (j : Int) ∧ x = .int .i64 y ∧ 0 < y ∧ y ≤ 1099511627776 ∧ Hid (y = k + 3 * (j : Int)) ∧ wr.ownsRow B 64 3 (.slice (some ⟨b, 0, none⟩) n cap) n xs ∧ Hid (Marked combL markComb 3 k j xs) ∧ w.grownBy wr (some b))
    case atStart => exact ⟨0, k, xs0, rfl, by omega, rfl, rfl, by omega, by have := HB.out; omega, by simp [Hid], h, (fun j hj => by omega : Marked combL markComb 3 k 0 xs0), ⟨rfl, rfl, rfl, Nat.le_refl _, fun _ _ _ => rfl⟩⟩
    case round =>
      clear h
      obtain ⟨j, x, xs, hg, hj, rfl, rfl, hx0, hx1, HX, hown, HM, hG⟩ := hrel
      by_cases hlt : (j : Int) < (n : Int)
      · have hj' : j < n := by omega
        have HJ : Hid (j * 3 + 3 ≤ n * 3) := by unfold Hid; omega
        have hx2 : x + 3 ≤ 1099511627776 := by have := HB.out; have := HX.out; omega
        go_wp2_with (first | (refine store_own rfl 3 _ _ rfl rfl b (j * 3) (.int .i64 (x)) rfl rfl size1_int rfl hown (by have := HJ.out; omega) ?_; intro w1 own1 hg1 hs1) | (refine store_own rfl 3 _ _ rfl rfl b (j * 3 + 1) (.int .i64 (x + 1)) rfl rfl size1_int rfl own1 (by have := HJ.out; omega) ?_; intro w2 own2 hg2 hs2) | (refine store_own rfl 3 _ _ rfl rfl b (j * 3 + 2) (.int .i64 (x + 1 + 1)) rfl rfl size1_int rfl own2 (by have := HJ.out; omega) ?_; intro w3 own3 hg3 hs3))
        go_roundg (n - (j + 1))
        case measure => omega
        case rel =>
          have hbb := HB.out
          refine ⟨j + 1, x + 3, _, rfl, by omega, congrArg (Value.int .i64) (by unfold wrap64; omega), congrArg (Value.int .i64) (by omega), by omega, hx2, by have := HX.out; unfold Hid; omega, own3, ?_, (grownX_trans (grownX_trans (grownX_trans hG hg1) hg2) hg3)⟩
          intro i hi q hq
          by_cases e : i = j
          · subst e
            have hxe : k + ((3 : Nat) : Int) * (i : Int) = x := by have := HX.out; omega
            rw [hxe]
            have hl1 := hown.1
            match q, hq with
            | 0, _ => simp [List.getElem?_set, combL, markComb]; omega
            | 1, _ => simp [List.getElem?_set, combL, markComb]; omega
            | 2, _ => simp [List.getElem?_set, combL, markComb]; omega
          · exact (((HM.out.set (j * 3) (.int .i64 (x)) (by omega)).set (j * 3 + 1) (.int .i64 (x + 1)) (by omega)).set (j * 3 + 2) (.int .i64 (x + 1 + 1)) (by omega)) i (by omega) q hq
      · have hjn : j = n := by omega
        subst hjn
        have hxs := HM.out.all combL_len hown.1
        rw [hxs] at hown
        have HO := hideT' hown
        clear hown hxs
        have HXN : Hid (x = N) := by unfold Hid; rw [HX.out, HN.out]
        go_wp2
        go_ret
        refine ⟨by rw [← HN.out, ← HXN.out]; rfl, ?_, hG⟩
        have := HO.out
        unfold OwnR
        rw [markL_len]
        exact this
set_option maxHeartbeats 2000000 in
set_option maxRecDepth 100000 in
theorem heldCombS_in (v : Value) (n : Nat) (k : Int) (w : World) (hk0 : 0 < k) (hk1 : k + 3 * (n : Int) ≤ 1099511627776) (h : InR w v combL 3 (markL markComb 3 k n)) :
    Calls Try.prog 30 #[v, .int .i64 k] w fun e w' => e = .returned (.int .i64 (k + 3 * (n : Int))) ∧ Below w.heap.size w w' := by
  obtain ⟨o, cap, rfl, h⟩ := h
  rw [markL_len]
  rcases Nat.eq_zero_or_pos n with rfl | hn
  · have hx : k + 3 * ((0 : Nat) : Int) = k := by simp
    rw [hx]
    clear hx hk1 h
    go_enter Try.func30, Try.ntmps30
    go_wp2_with fail
    go_loopg [1, 5] 0 (fun g x i wr => x = .int .i64 k ∧ i = .int .i64 0 ∧ wr = w)
    case atStart => exact ⟨rfl, rfl, rfl⟩
    case round =>
      obtain ⟨rfl, rfl, rfl⟩ := hrel
      go_wp2
      go_ret
      exact ⟨rfl, Below.refl _ _⟩
  obtain ⟨b, rfl, hb, h1⟩ := h (by intro e; have := congrArg List.length e; rw [markL_len] at this; simp at this; omega)
  obtain ⟨N, hN⟩ : ∃ N : Int, N = k + 3 * (n : Int) := ⟨_, rfl⟩
  have HN := hideT' hN
  have HB := hideT' hk1
  have H1 := hideT' h1
  clear hN hk1 h1 h
  go_enter Try.func30, Try.ntmps30
  go_wp2_with fail
  go_loopg [1, 5] n (fun g x i wr => ∃ (j : Nat) (y : Int), g = n - j ∧ j ≤ n ∧ i = .int .i64 (j : Int) ∧ x = .int .i64 y ∧ 0 < y ∧ y ≤ 1099511627776 ∧ Hid (y = k + 3 * (j : Int)) ∧ Below w.heap.size w wr)
  case atStart => exact ⟨0, k, rfl, by omega, rfl, rfl, by omega, by have := HB.out; omega, by simp [Hid], Below.refl _ _⟩
  case round =>
    obtain ⟨j, x, hg, hj, rfl, rfl, hx0, hx1, HX, hW⟩ := hrel
    by_cases hlt : (j : Int) < (n : Int)
    · have hj' : j < n := by omega
      have hx2 : x + 3 ≤ 1099511627776 := by have := HB.out; have := HX.out; omega
      have hxe : k + ((3 : Nat) : Int) * (j : Int) = x := by have := HX.out; omega
      have hcell : ∀ q u, (combL (markComb x))[q]? = some u → wr.cell? ⟨b, j * 3 + q, none⟩ = some u := fun q u hu => by
        have := H1.out j q u (by rw [markL_len]; exact hj') (by rw [markL_get markComb 3 k n j hj', hxe]; exact hu)
        exact (hW.cell (p := ⟨b, j * 3 + q, none⟩) hb).trans this
      have c0 := hcell 0 (.int .i64 (x)) rfl
      have c1 := hcell 1 (.int .i64 (x + 1)) rfl
      have c2 := hcell 2 (.int .i64 (x + 1 + 1)) rfl
      rw [Nat.add_zero] at c0
      have HC := hideT' hcell
      clear hcell hxe
      go_wp2
      go_roundg (n - (j + 1))
      case measure => omega
      case rel =>
        have hbb := HB.out
        exact ⟨j + 1, x + 3, rfl, by omega, congrArg (Value.int .i64) (by unfold wrap64; omega), congrArg (Value.int .i64) (by omega), by omega, hx2, by have := HX.out; unfold Hid; omega, hW⟩
    · have hjn : j = n := by omega
      have HXN : Hid (x = N) := by unfold Hid; rw [HX.out, HN.out, hjn]
      go_wp2
      go_ret
      exact ⟨by rw [← HN.out, ← HXN.out]; rfl, hW⟩
end Go.Proofs.Ytnnhedncdpfiaaa

/-
  Nodes that came in as an argument: what their reading says of the cells.
-/
namespace Go.Proofs.Ytnnhedncdpfiaaa.CB
open Go.ChangeShapes Go.WideShapes Go.ChangeAt Go.RowKit
set_option linter.unusedVariables false

def ndsOf (l : List (Int × Int × Int)) : List Nd := l.map fun x => ⟨x.1, x.2.1, x.2.2⟩
theorem tri_ndsOf (l : List (Int × Int × Int)) : tri (ndsOf l) = l := by
  unfold tri ndsOf triN
  rw [List.map_map]
  exact List.map_id' l
theorem ndsOf_len (l : List (Int × Int × Int)) : (ndsOf l).length = l.length := by simp [ndsOf]
theorem ndsOf_tri (l : List Nd) : ndsOf (tri l) = l := by
  unfold tri ndsOf triN
  rw [List.map_map]
  exact List.map_id' l
theorem RecAt.nds {w : World} {b : Nat} {T : TypeId} {l : List (Int × Int × Int)} (h : RecAt w b T combL l) : NdIn w (slR b l) (ndsOf l) := by
  unfold NdIn
  rw [tri_ndsOf]
  exact h.inR combL_len

theorem cells_intT : Try.prog.cellsOf 3 = 1 := by kernel_rfl
set_option maxRecDepth 100000 in
theorem open_term {H : Type} {enc : TypeId × Value → H} {W : World} (n : Nat) (cs : List Value) (x : DataW H × List MemPlace) (hl : cs.length = 3) (h : DataW.trod enc Try.prog W 0 (fun _ => true) true n 67 cs = some x) :
    ∃ d : Int × Int × Int, cs = combL d ∧ True := by
  obtain ⟨xs, m, _, _, _, hlen, hf⟩ := DataW.trod_struct Try.underlying67 h
  obtain ⟨a, b, c, rfl⟩ : ∃ a b c, cs = [a, b, c] := by
    match cs, hl with
    | [a, b, c], _ => exact ⟨a, b, c, rfl⟩
  obtain ⟨y0, y1, y2, rfl⟩ : ∃ y0 y1 y2, xs = [y0, y1, y2] := by
    match xs, hlen with
    | [y0, y1, y2], _ => exact ⟨y0, y1, y2, rfl⟩
  have g0 : DataW.trod enc Try.prog W 0 (fun _ => true) true m 3 (([a, b, c].drop 0).take (Try.prog.cellsOf 3)) = some y0 := by simpa using hf 0 _ rfl
  have g1 : DataW.trod enc Try.prog W 0 (fun _ => true) true m 3 (([a, b, c].drop 1).take (Try.prog.cellsOf 3)) = some y1 := by simpa using hf 1 _ rfl
  have g2 : DataW.trod enc Try.prog W 0 (fun _ => true) true m 3 (([a, b, c].drop 2).take (Try.prog.cellsOf 3)) = some y2 := by simpa using hf 2 _ rfl
  rw [cells_intT] at g0 g1 g2
  obtain ⟨k, e0, _, _⟩ := DataW.trod_int Try.underlying3 g0
  obtain ⟨u, e1, _, _⟩ := DataW.trod_int Try.underlying3 g1
  obtain ⟨t, e2, _, _⟩ := DataW.trod_int Try.underlying3 g2
  simp at e0 e1 e2
  exact ⟨(k, u, t), by rw [e0, e1, e2]; rfl, trivial⟩
theorem cells_lterm : Try.prog.cellsOf 67 = 3 := by kernel_rfl

set_option maxRecDepth 100000 in
theorem open_terms {H : Type} {enc : TypeId × Value → H} {W : World} {base : Nat} {v : Value} {d : DataW H} {ps : List MemPlace} (hval : Value.okWide Try.prog W .any base 35 v) (h : DataW.Trod enc Try.prog W 0 (fun _ => true) true 35 v d ps) :
    ∃ l : List (Int × Int × Int), SlR W v combL 3 l ∧ l.length ≤ maxLen := by
  obtain ⟨a0, len, cap, rfl⟩ := okWide_slice Try.underlying35 hval
  obtain ⟨fuel, hf⟩ := h
  obtain ⟨v', l, e1, hL, q1, q2⟩ := open_recs combL 3 (by decide) combL_len (fun _ => True) Try.underlying35 cells_lterm open_term hf
  have e2 : Value.slice a0 len cap = v' := by simpa [Value.cells] using e1
  rw [e2]
  exact ⟨l, hL, q2⟩
end Go.Proofs.Ytnnhedncdpfiaaa.CB

/-
  What changedAt of the program makes of a tree: anew, with what a function gives in the place of the node of a number.
-/
namespace Go.Proofs.Ytnnhedncdpfiaaa.CB
open Go.RowKit BL
set_option linter.unusedVariables false

def ptrsV (bs : List Nat) : List Value := bs.map fun b => .pointer (some ⟨b, 0, none⟩)
theorem ptrsV_len (bs : List Nat) : (ptrsV bs).length = bs.length := by simp [ptrsV]
set_option maxHeartbeats 2000000 in
set_option maxRecDepth 100000 in
theorem clone_any (g cap m : Nat) (bs : List Nat) (w : World) (hm : m = bs.length) (h2 : m ≤ 2) (h1 : 1 ≤ m) (hgl : g < w.heap.size) (hc : ∀ i b, bs[i]? = some b → w.cell? ⟨g, i, none⟩ = some (.pointer (some ⟨b, 0, none⟩))) :
    Calls Try.prog 83 #[.slice (some ⟨g, 0, none⟩) m cap] w fun e w' => (∃ v, e = .returned v ∧ w'.ownsRow w.heap.size 68 1 v m (ptrsV bs)) ∧ Below w.heap.size w w' := by
  obtain ⟨i0, hi, hz0, hz1, hz2⟩ := info_parts info_ptree
  have hq : ∀ (w : World) (a : Option Addr) (n c n' c' : Nat), (binOp .eql 109 (.slice a n c) (.slice none n' c')).run Try.prog w = .ok (.bool a.isNone) w := fun w a n c n' c' => Lib.run_eql_slice_nil w _ _ a n c n' c' Try.underlying109
  have HC := hideT' hc
  have HM := hideT' hm
  clear hc hm
  go_enter Try.func83, Try.ntmps83
  go_wp2_with (at_builtin; refine wpList_append_own _ rfl _ _ 109 rfl w.heap.size 68 i0 (.pointer none) 1 8 Try.underlying109 hi hz0 hz1 hz2 rfl (by decide) _ _ _ rfl (World.ownsRow_made w #[] 0 (Nat.le_refl _) (Nat.zero_le _) rfl) ⟨g, 0, none⟩ m cap (ptrsV bs) rfl ?qc1 ?qc2 ?qc3 ?qc4 ?qc5 ?qc6 ?_)
  case qc1 => rw [ptrsV_len, ← HM.out]; omega
  case qc2 =>
    intro j u hj
    rw [Addr.add_lit]
    refine Lib.cell?_alloc_some _ ?_
    unfold ptrsV at hj
    rw [List.getElem?_map] at hj
    cases hb : bs[j]? with
    | none => rw [hb] at hj; cases hj
    | some b =>
      rw [hb] at hj
      injection hj with hj
      subst hj
      have := HC.out j b hb
      rw [Nat.zero_add]
      exact this
  case qc3 => intro u hu; obtain ⟨x, _, rfl⟩ := List.mem_map.1 hu; rfl
  case qc4 => unfold maxLen; omega
  case qc5 => omega
  case qc6 => simp
  intro v' w1 hown hgrow hnil
  have HF : Hid (w1.ownsRow w.heap.size 68 1 v' m (ptrsV bs) ∧ Below w.heap.size w w1) := ⟨by simpa using hown, ((Below.refl _ w).alloc (Nat.le_refl _) _).grown hgrow (by simp) (by intro k hk; simp [Value.ownBlock] at hk; omega)⟩
  clear hown hgrow hnil
  go_wp2
  go_ret
  exact ⟨⟨v', rfl, HF.out.1⟩, HF.out.2⟩

/-- A tree with a node changed. -/
def Lm.chgAt (f : Lm → Lm) : Lm → Nat → Lm
  | t, 0 => f t
  | .var n, _ + 1 => .var n
  | .app s t, k + 1 => if k < s.sz then .app (Lm.chgAt f s k) t else if k < s.sz + t.sz then .app s (Lm.chgAt f t (k - s.sz)) else .app s t
def Lm.subAt : Lm → Nat → Option Lm
  | t, 0 => some t
  | .var _, _ + 1 => none
  | .app s t, k + 1 => if k < s.sz then s.subAt k else t.subAt (k - s.sz)
theorem Lm.subAt_lt : ∀ {t : Lm} {k : Nat} {s : Lm}, t.subAt k = some s → k < t.sz ∧ s.sz ≤ t.sz
  | .var n, 0, s, h => by rw [Lm.subAt] at h; injection h with h; subst h; exact ⟨Lm.sz_pos _, Nat.le_refl _⟩
  | .var n, k + 1, s, h => by rw [Lm.subAt] at h; cases h
  | .app p q, 0, s, h => by rw [Lm.subAt] at h; injection h with h; subst h; exact ⟨Lm.sz_pos _, Nat.le_refl _⟩
  | .app p q, k + 1, s, h => by
    rw [Lm.subAt] at h
    split at h
    · have := Lm.subAt_lt h; simp only [Lm.sz]; omega
    · have := Lm.subAt_lt h; simp only [Lm.sz]; omega
/-- What becomes of the parts, from a number on. -/
def chgL (f : Lm → Lm) (k : Nat) : Nat → List Lm → List Lm
  | _, [] => []
  | a, p :: ps => (if a ≤ k ∧ k < a + p.sz then Lm.chgAt f p (k - a) else p) :: chgL f k (a + p.sz) ps
def szL : List Lm → Nat
  | [] => 0
  | p :: ps => p.sz + szL ps
theorem szL_app (p q : List Lm) : szL (p ++ q) = szL p + szL q := by
  induction p with
  | nil => simp [szL]
  | cons x p ih => simp only [List.cons_append, szL, ih]; omega
theorem chgL_app (f : Lm → Lm) (k : Nat) (q : List Lm) : ∀ (p : List Lm) (a : Nat), chgL f k a (p ++ q) = chgL f k a p ++ chgL f k (a + szL p) q
  | [], a => by simp [chgL, szL]
  | x :: p, a => by simp only [List.cons_append, chgL, szL]; rw [chgL_app f k q p, Nat.add_assoc]
theorem chgL_len (f : Lm → Lm) (k : Nat) : ∀ (p : List Lm) (a : Nat), (chgL f k a p).length = p.length
  | [], a => rfl
  | x :: p, a => by simp only [chgL, List.length_cons, chgL_len f k p]
theorem chgAt_node (f : Lm → Lm) (t : Lm) (k : Nat) : nodeOf t.kd t.nm (chgL f (k + 1) 1 t.kids) = some (Lm.chgAt f t (k + 1)) := by
  cases t with
  | var n => cases n <;> simp [Lm.kids, chgL, Lm.kd, Lm.nm, Leaf.kd, Leaf.nm, nodeOf, Lm.chgAt]
  | app s t =>
    simp only [Lm.kids, chgL, Lm.kd, Lm.nm, nodeOf, Lm.chgAt]
    by_cases h : k < s.sz
    · rw [if_pos (show 1 ≤ k + 1 ∧ k + 1 < 1 + s.sz by omega), if_neg (show ¬ (1 + s.sz ≤ k + 1 ∧ k + 1 < 1 + s.sz + t.sz) by omega), if_pos h]; simp
    · rw [if_neg (show ¬ (1 ≤ k + 1 ∧ k + 1 < 1 + s.sz) by omega), if_neg h]
      by_cases h2 : k < s.sz + t.sz
      · rw [if_pos (show 1 + s.sz ≤ k + 1 ∧ k + 1 < 1 + s.sz + t.sz by omega), if_pos h2]
        rw [show k + 1 - (1 + s.sz) = k - s.sz by omega]; simp
      · rw [if_neg (show ¬ (1 + s.sz ≤ k + 1 ∧ k + 1 < 1 + s.sz + t.sz) by omega), if_neg h2]; simp
theorem subAt_kid {t s : Lm} {k : Nat} (h : t.subAt (k + 1) = some s) : ∀ (As : List Lm) (T : Lm) (Bs : List Lm), t.kids = As ++ T :: Bs → 1 + szL As ≤ k + 1 → k + 1 < 1 + szL As + T.sz → T.subAt (k + 1 - (1 + szL As)) = some s := by
  intro As T Bs hk h1 h2
  cases t with
  | var n => simp [Lm.kids] at hk
  | app p q =>
    simp only [Lm.kids] at hk
    rw [Lm.subAt] at h
    match As, hk with
    | [], hk =>
      cases hk
      simp only [szL, Nat.add_zero] at h1 h2 ⊢
      rw [if_pos (by omega)] at h
      rw [show k + 1 - 1 = k by omega]; exact h
    | [_], hk =>
      cases hk
      simp only [szL, Nat.add_zero] at h1 h2 ⊢
      rw [if_neg (by omega)] at h
      rw [show k + 1 - (1 + p.sz) = k - p.sz by omega]; exact h
    | [_, _], hk => simp at hk
    | _ :: _ :: _ :: _, hk => simp at hk
theorem chgAt_szle (f : Lm → Lm) (M : Nat) (hf : ∀ s, (f s).sz ≤ M + s.sz) : ∀ (t : Lm) (k : Nat), (Lm.chgAt f t k).sz ≤ M + t.sz
  | .var n, 0 => by rw [Lm.chgAt]; exact hf _
  | .var n, k + 1 => by rw [Lm.chgAt]; simp only [Lm.sz]; omega
  | .app s t, 0 => by rw [Lm.chgAt]; exact hf _
  | .app s t, k + 1 => by
    rw [Lm.chgAt]
    split
    · have := chgAt_szle f M hf s k; simp only [Lm.sz]; omega
    · split
      · have := chgAt_szle f M hf t (k - s.sz); simp only [Lm.sz]; omega
      · simp only [Lm.sz]; omega
/-- What is asked of the function. -/
def ChgOk (cf : Nat) (pre : Lm → Bool) (f : Lm → Lm) (Z : Nat) : Prop := ∀ (s : Lm) (b : Nat) (P : Nat → Prop) (w : World), TrIn w P s b → pre s = true → s.sz ≤ Z → s.bd →
    Calls Try.prog cf #[.pointer (some ⟨b, 0, none⟩)] w fun e w' => (∃ b', e = .returned (.pointer (some ⟨b', 0, none⟩)) ∧ TrIn w' (fun x => P x ∨ w.heap.size ≤ x) (f s) b') ∧ Below w.heap.size w w'
def ChgC (cf : Nat) (pre : Lm → Bool) (f : Lm → Lm) (Z : Nat) (N : Nat) : Prop := ∀ (t : Lm), t.sz ≤ N → ∀ (s : Lm) (b k : Nat) (P : Nat → Prop) (w : World), TrIn w P t b → t.subAt k = some s → pre s = true → t.sz ≤ Z → t.bd →
    Calls Try.prog 61 #[.pointer (some ⟨b, 0, none⟩), .int .i64 (k : Int), .func (.func cf) #[] #[]] w fun e w' => (∃ b', e = .returned (.pointer (some ⟨b', 0, none⟩)) ∧ TrIn w' (fun x => P x ∨ w.heap.size ≤ x) (Lm.chgAt f t k) b') ∧ Below w.heap.size w w'
theorem kids_ptrs {w : World} {P : Nat → Prop} {t : Lm} {b : Nat} (h : TrIn w P t b) : ∃ (o : Option Addr) (c : Nat) (ks : List (Nat × Lm)), w.cell? ⟨b, 3, none⟩ = some (.slice o t.kids.length c) ∧ ks.map Prod.snd = t.kids ∧ (∀ p ∈ ks, TrIn w P p.2 p.1) ∧ (t.kids ≠ [] → ∃ g, o = some ⟨g, 0, none⟩ ∧ g < w.heap.size ∧ P g ∧ ∀ i (p : Nat × Lm), ks[i]? = some p → w.cell? ⟨g, i, none⟩ = some (.pointer (some ⟨p.1, 0, none⟩))) := by
  cases t with
  | var n =>
    obtain ⟨_, u, o, c, h⟩ := h
    exact ⟨o, c, [], by rw [cell_of_row _ _ _ _ _ _ h]; rfl, rfl, by simp, fun h => absurd rfl h⟩
  | app s t =>
    obtain ⟨_, u, g, c, b1, b2, h, hg, hc, hc2, h1, h2⟩ := h
    refine ⟨_, c, [(b1, s), (b2, t)], by rw [cell_of_row _ _ _ _ _ _ h]; rfl, rfl, by simp; exact ⟨h1, h2⟩, fun _ => ⟨g, rfl, hg.1, hg.2, fun i p hi => ?_⟩⟩
    match i, hi with
    | 0, hi => cases hi; exact hc
    | 1, hi => cases hi; exact hc2
    | i + 2, hi => simp at hi
set_option maxHeartbeats 8000000 in
set_option maxRecDepth 100000 in
theorem changedAt_step (cf : Nat) (pre : Lm → Bool) (f : Lm → Lm) (Z M : Nat) (eg : ∀ args w, (callFunc cf args).run Try.prog w = .ok (.enter cf args) w) (hf : ∀ s, (f s).sz ≤ M + s.sz) (hZ : Z ≤ 1000) (hM : M ≤ 900000) (hch : ChgOk cf pre f Z) (N : Nat) (IH : ∀ n, n < N → ChgC cf pre f Z n) : ChgC cf pre f Z N := by
  intro t ht s b k P w hT hsub hpre hsz hbd
  have hbl := hT.lt
  by_cases hk0 : k = 0
  · subst hk0
    have hts : t = s := by cases t <;> (rw [Lm.subAt] at hsub; injection hsub)
    subst hts
    have HC := hideT' (hch t b P w hT hpre hsz hbd)
    have HE : Hid (Lm.chgAt f t 0 = f t) := by unfold Hid; cases t <;> rw [Lm.chgAt]
    clear IH hT hsub hpre hbd
    go_enter Try.func61, Try.ntmps61
    go_wp2_with fail
    refine HC.out.mono ?_
    rintro e w2 ⟨⟨b', rfl, hT2⟩, hB2⟩
    have HF := hideT' (And.intro hT2 hB2)
    clear hT2 hB2
    go_wp2
    go_ret
    exact ⟨⟨b', rfl, by rw [HE.out]; exact HF.out.1⟩, HF.out.2⟩
  · obtain ⟨k', rfl⟩ : ∃ k', k = k' + 1 := ⟨k - 1, by omega⟩
    have hne : t.kids ≠ [] := by cases t <;> simp [Lm.kids, Lm.subAt] at hsub ⊢
    obtain ⟨o, c, ks, hpc, hks, hTk, hgo⟩ := kids_ptrs hT
    obtain ⟨g, rfl, hg, hPg, hcell⟩ := hgo hne
    obtain ⟨u, c0, c1, c2⟩ := hT.own3
    obtain ⟨q, hq⟩ : ∃ q, q = t.kids.length := ⟨_, rfl⟩
    have hq2 : q ≤ 2 := by rw [hq]; cases t <;> simp [Lm.kids]
    have hq1 : 1 ≤ q := by rw [hq]; exact List.length_pos_iff.2 hne
    rw [← hq] at hpc
    have hkl : q = (ks.map Prod.fst).length := by rw [hq, ← hks, List.length_map, List.length_map]
    have HCL := hideT' (clone_any g c q (ks.map Prod.fst) w hkl hq2 hq1 hg (fun i bb hi => by
      rw [List.getElem?_map] at hi
      cases hp : ks[i]? with
      | none => rw [hp] at hi; cases hi
      | some p => rw [hp] at hi; injection hi with hi; subst hi; exact hcell i p hp))
    have HIH := hideT' IH
    have HTN := hideT' ht
    have HT := hideT' hT
    have HSUB := hideT' (And.intro hsub (And.intro hpre hbd))
    have HQ := hideT' hq
    have HKS := hideT' hks
    have HTK := hideT' hTk
    have hkz : k' + 1 < t.sz := (Lm.subAt_lt hsub).1
    have hk1000 : k' + 1 ≤ 1000 := by omega
    have hkb : ((k' + 1 : Nat) : Int) ≠ 0 := by omega
    obtain ⟨K, hK⟩ : ∃ K : Nat, K = k' + 1 := ⟨_, rfl⟩
    rw [← hK] at hkb hkz hk1000 HSUB ⊢
    have hKz : ¬ (K : Int) = 0 := hkb
    have hKb : ((K : Int) == 0) = false := by simp only [beq_eq_false_iff_ne]; exact hKz
    have HNODE : Hid (nodeOf t.kd t.nm (chgL f K 1 t.kids) = some (Lm.chgAt f t K)) := by unfold Hid; rw [hK]; exact chgAt_node f t k'
    have HSK : Hid (∀ (As : List Lm) (T : Lm) (Bs : List Lm), t.kids = As ++ T :: Bs → 1 + szL As ≤ K → K < 1 + szL As + T.sz → T.subAt (K - (1 + szL As)) = some s) := by unfold Hid; rw [hK]; exact subAt_kid hsub
    obtain ⟨kd, hkd⟩ : ∃ kd, kd = t.kd := ⟨_, rfl⟩
    obtain ⟨nm, hnm⟩ : ∃ nm, nm = t.nm := ⟨_, rfl⟩
    rw [← hkd, ← hnm] at HNODE
    rw [← hkd] at c0
    rw [← hnm] at c1
    clear IH ht hT hsub hpre hbd hne hkl hcell hq hks hTk hkb hK hkd hnm
    go_enter Try.func61, Try.ntmps61
    go_wp2_with fail
    refine HCL.out.mono ?_
    rintro e w1 ⟨⟨v, rfl, hO1⟩, hB1⟩
    obtain ⟨ov, cv, hvv⟩ := own_formT hO1
    subst hvv
    have hgv : ∃ gv, ov = some ⟨gv, 0, none⟩ := by
      rcases hO1.2 with ⟨h, _⟩ | ⟨g1, cap1, cur, h, _⟩
      · injection h with h1 h2 h3; omega
      · injection h with h1 h2 h3; exact ⟨g1, h1⟩
    obtain ⟨gv, rfl⟩ := hgv
    have hgl := hO1.lt gv rfl
    have HO1 := hideT' hO1
    have HB1 := hideT' hB1
    have HGV : Hid (w.heap.size ≤ gv) := hgl.1
    clear hO1 hB1 hgl
    go_wp2_with fail
    go_loopg [8, 23] q (fun gg fv i wr => ∃ (As Bs : List (Nat × Lm)) (ns : List (Nat × Lm)) (F : Nat), gg = Bs.length ∧ Hid (ks = As ++ Bs ∧ ns.map Prod.snd = chgL f K 1 (As.map Prod.snd) ∧ F = 1 + szL (As.map Prod.snd) ∧ wr.ownsRow w.heap.size 68 1 (.slice (some ⟨gv, 0, none⟩) q cv) q (ptrsV (ns.map Prod.fst ++ Bs.map Prod.fst)) ∧ (∀ p ∈ ns, TrIn wr (fun x => (P x ∧ x < w.heap.size) ∨ (w.heap.size ≤ x ∧ x ≠ gv)) p.2 p.1) ∧ Below w.heap.size w wr) ∧ i = .int .i64 (As.length : Int) ∧ fv = .int .i64 (F : Int) ∧ F ≤ 1001 ∧ gv < wr.heap.size)
    case atStart => exact ⟨[], ks, [], 1, by rw [HQ.out, ← HKS.out, List.length_map], ⟨rfl, rfl, rfl, HO1.out, by simp, HB1.out⟩, rfl, rfl, by omega, (HO1.out.lt gv rfl).2⟩
    case round =>
      obtain ⟨As, Bs, ns, F, hgg, HS, rfl, rfl, hF, hgvl⟩ := hrel
      obtain ⟨j, hj⟩ : ∃ j, j = As.length := ⟨_, rfl⟩
      rw [← hj]
      have HJ := hideT' hj
      have hnl : ns.length = As.length := by
        have := congrArg List.length HS.out.2.1
        rw [List.length_map, chgL_len, List.length_map] at this
        exact this
      have HNL := hideT' hnl
      clear hj hnl
      have hqs : q = As.length + Bs.length := by rw [HQ.out, ← HKS.out, List.length_map, HS.out.1, List.length_append]
      cases Bs with
      | nil =>
        have hjm : j = q := by rw [HJ.out, hqs]; simp
        have hnlt : ¬ (j : Int) < (q : Int) := by omega
        obtain ⟨e1, e2, e3, hOw, hTn, hBr⟩ := HS.out
        simp only [List.map_nil, List.append_nil] at e1 hOw
        have HKids : Hid (KidsAt wr (fun x => P x ∨ w.heap.size ≤ x) (.slice (some ⟨gv, 0, none⟩) q cv) ns) := by
          refine ⟨_, cv, by rw [HNL.out, ← HJ.out, hjm], fun _ => ⟨gv, rfl, ⟨hgvl, .inr HGV.out⟩, fun i p hi => ?_⟩, fun p hp => TrIn.mono (fun x hx _ => by rcases hx with hx | hx; exact .inl hx.1; exact .inr hx.1) (hTn p hp)⟩
          have hil : i < ns.length := (List.getElem?_eq_some_iff.1 hi).1
          rw [World.ownsRow.cellAt hOw i (by rw [HNL.out, ← HJ.out] at hil; omega)]
          unfold ptrsV
          rw [List.getElem?_map, List.getElem?_map, hi]; rfl
        have HN2 : Hid (nodeOf kd nm (ns.map Prod.snd) = some (Lm.chgAt f t K)) := by unfold Hid; rw [e2, ← e1, HKS.out]; exact HNODE.out
        have HPS : Hid (∀ p ∈ ptsOf ns, p.2.1 ≤ 1000000 ∧ p.2.2 ≤ 1000000) := by
          intro p hp
          obtain ⟨y, hy, rfl⟩ := List.mem_map.1 hp
          have h1 : y.2 ∈ ns.map Prod.snd := List.mem_map_of_mem hy
          have hle : y.2.sz ≤ M + 1000 := by
            rw [e2, ← e1, HKS.out] at h1
            have key : ∀ (ls : List Lm) (a : Nat), (∀ l ∈ ls, l.sz ≤ 1000) → ∀ l ∈ chgL f K a ls, l.sz ≤ M + 1000 := by
              intro ls
              induction ls with
              | nil => intro a _ l hl; simp [chgL] at hl
              | cons z ls ih =>
                intro a hz l hl
                rw [chgL] at hl
                have hzz := hz z (by simp)
                rcases List.mem_cons.1 hl with rfl | hl
                · split
                  · have := chgAt_szle f M hf z (K - a); omega
                  · omega
                · exact ih _ (fun l h => hz l (by simp [h])) l hl
            exact key t.kids 1 (fun l hl => by have := Lm.kids_lt hl; omega) _ h1
          have h3 := y.2.dp_sz
          simp only; omega
        have d0 : wr.cell? ⟨b, 0, none⟩ = some (.int .i64 kd) := by rw [hBr.cell (p := ⟨b, 0, none⟩) hbl]; exact c0
        have d1 : wr.cell? ⟨b, 1, none⟩ = some (.int .i64 nm) := by rw [hBr.cell (p := ⟨b, 1, none⟩) hbl]; exact c1
        have d2 : wr.cell? ⟨b, 2, none⟩ = some (.int .i64 u) := by rw [hBr.cell (p := ⟨b, 2, none⟩) hbl]; exact c2
        have hbr : b < wr.heap.size := by have := hBr.size; omega
        have HBR := hideT' hBr
        clear e1 e2 e3 hOw hTn hBr HS hgg hqs
        go_wp2_with fail
        refine (treeOf_any kd nm u _ (ptsOf ns) wr HKids.out.pts (by unfold ptsOf; rw [List.length_map, HNL.out, ← HJ.out]; omega) HPS.out).mono ?_
        intro e w2 hN
        obtain ⟨b', rfl, hbb, hTr, hB2⟩ := treeNew_at HKids.out HN2.out hN
        have HF : Hid (TrIn w2 (fun x => P x ∨ w.heap.size ≤ x) (Lm.chgAt f t K) b' ∧ Below w.heap.size w w2) := ⟨TrIn.mono (fun x hx _ => by have := HBR.out.size; rcases hx with hx | hx; exact hx; exact .inr (by omega)) hTr, HBR.out.trans (hB2.mono HBR.out.size)⟩
        clear hN hTr hB2
        go_wp2
        go_ret
        exact ⟨⟨b', rfl, HF.out.1⟩, HF.out.2⟩
      | cons p Bs =>
        obtain ⟨pb, T⟩ := p
        have hil : (j : Int) < (q : Int) := by rw [hqs, ← HJ.out]; simp; omega
        obtain ⟨e1, e2, e3, hOw, hTn, hBr⟩ := HS.out
        have hcj : wr.cell? ⟨gv, j, none⟩ = some (.pointer (some ⟨pb, 0, none⟩)) := by
          rw [World.ownsRow.cellAt hOw j (by omega)]
          unfold ptrsV
          rw [List.getElem?_map, List.getElem?_append_right (by rw [List.length_map, HNL.out, ← HJ.out]; exact Nat.le_refl _), List.length_map, HNL.out, ← HJ.out, Nat.sub_self]
          rfl
        have hTp0 : TrIn w P T pb := HTK.out (pb, T) (by rw [e1]; simp)
        have hTp : TrIn wr (fun x => P x ∧ x < w.heap.size) T pb := TrIn.keep (w := w) hBr.size (fun x _ hx => hBr.block x hx) (fun x h hx => ⟨h, hx⟩) hTp0
        have hp4 := hTp.size
        have hpbl : pb < wr.heap.size := hTp.lt
        have hpw : pb < w.heap.size := hTp0.lt
        have hTm : T ∈ t.kids := by rw [← HKS.out, e1]; simp
        have hTs := Lm.kids_lt hTm
        have hkids : t.kids = As.map Prod.snd ++ T :: Bs.map Prod.snd := by rw [← HKS.out, e1]; simp
        have hwz : IntKind.i64.wrap ((F : Int) + (T.sz : Int)) = (F : Int) + (T.sz : Int) := by rw [IntKind.wrap_i64]; omega
        have hF2 : F + T.sz ≤ 1001 := by
          have hs1 : szL t.kids + 1 ≤ t.sz := by cases t <;> simp [Lm.kids, szL, Lm.sz] <;> omega
          rw [hkids, szL_app] at hs1
          simp only [szL] at hs1
          omega
        have HE3 := hideT' e3
        have HTP := hideT' hTp
        by_cases hin : F ≤ K ∧ K < F + T.sz
        · obtain ⟨hin1, hin2⟩ := hin
          have hi1 : (F : Int) ≤ (K : Int) := by omega
          have hi2 : (K : Int) < (F : Int) + (T.sz : Int) := by omega
          have hwk : IntKind.i64.wrap ((K : Int) - (F : Int)) = ((K - F : Nat) : Int) := by rw [IntKind.wrap_i64]; omega
          have HCALL := hideT' (HIH.out T.sz (by have := HTN.out; omega) T (Nat.le_refl _) s pb (K - F) (fun x => P x ∧ x < w.heap.size) wr hTp (by rw [e3]; exact HSK.out (As.map Prod.snd) T (Bs.map Prod.snd) hkids (by omega) (by omega)) HSUB.out.2.1 (by omega) (Lm.bd_kid HSUB.out.2.2 hTm))
          have hcast : ((K - F : Nat) : Int) = (K : Int) - (F : Int) := by omega
          rw [hcast] at HCALL hwk
          have HSN : Hid (ns.map Prod.snd ++ [Lm.chgAt f T (K - F)] = chgL f K 1 ((As ++ [(pb, T)]).map Prod.snd)) := by
            unfold Hid
            rw [List.map_append, chgL_app, e2]
            simp only [List.map_cons, List.map_nil, chgL]
            rw [← e3, if_pos ⟨hin1, hin2⟩]
          have HOW := hideT' hOw
          have HTNN := hideT' hTn
          have HBR := hideT' hBr
          have HE1 := hideT' e1
          clear e1 e2 e3 hOw hTn hBr hTp hTp0 hkids hTm hcast HS hqs
          go_wp2_with fail
          refine HCALL.out.mono ?_
          rintro e w5 ⟨⟨b', rfl, hT5⟩, hB5⟩
          have hO5 : w5.ownsRow w.heap.size 68 1 (.slice (some ⟨gv, 0, none⟩) q cv) q (ptrsV (ns.map Prod.fst ++ ((pb, T) :: Bs).map Prod.fst)) := own_keep HOW.out (fun gg e => hB5.block gg (HOW.out.lt gg e).2)
          have hp45 : w5.cell? ⟨pb, 4, none⟩ = some (.int .i64 (T.sz : Int)) := by rw [hB5.cell (p := ⟨pb, 4, none⟩) hpbl]; exact hp4
          have hne : pb ≠ gv := by have := HGV.out; omega
          have HT5 := hideT' hT5
          have HB5 := hideT' hB5
          clear hT5 hB5 hp4
          go_wp2_with (refine store_own rfl 68 _ _ rfl rfl gv j (.pointer (some ⟨b', 0, none⟩)) rfl rfl one_ptree rfl hO5 (by omega) ?_; intro w6 hO6 hg6 hs6; have hp46 : w6.cell? ⟨pb, 4, none⟩ = some (.int .i64 (T.sz : Int)) := (by rw [World.cell?_of_block (w := w5) (a := ⟨pb, 4, none⟩) (hg6.block pb (by have := HB5.out.size; omega) (by intro e; injection e with e; exact hne e))]; exact hp45); have HO6 := hideT' hO6; have HG6 := hideT' hg6; clear hO6 hg6)
          have hs5 := HB5.out.size
          have HEND : Hid (ks = (As ++ [(pb, T)]) ++ Bs ∧ (ns ++ [(b', Lm.chgAt f T (K - F))]).map Prod.snd = chgL f K 1 ((As ++ [(pb, T)]).map Prod.snd) ∧ F + T.sz = 1 + szL ((As ++ [(pb, T)]).map Prod.snd) ∧ w6.ownsRow w.heap.size 68 1 (.slice (some ⟨gv, 0, none⟩) q cv) q (ptrsV ((ns ++ [(b', Lm.chgAt f T (K - F))]).map Prod.fst ++ Bs.map Prod.fst)) ∧ (∀ p ∈ ns ++ [(b', Lm.chgAt f T (K - F))], TrIn w6 (fun x => (P x ∧ x < w.heap.size) ∨ (w.heap.size ≤ x ∧ x ≠ gv)) p.2 p.1) ∧ Below w.heap.size w w6) := by
            refine ⟨by rw [HE1.out]; simp, by rw [List.map_append]; exact HSN.out, by rw [HE3.out, List.map_append, szL_app]; simp [szL]; omega, ?_, fun p hp => ?_, ?_⟩
            · have e : (ptrsV (ns.map Prod.fst ++ ((pb, T) :: Bs).map Prod.fst)).set j (.pointer (some ⟨b', 0, none⟩)) = ptrsV ((ns ++ [(b', Lm.chgAt f T (K - F))]).map Prod.fst ++ Bs.map Prod.fst) := by
                unfold ptrsV
                rw [List.map_append, List.set_append_right _ _ (by simp only [List.length_map, HNL.out, ← HJ.out]; exact Nat.le_refl _)]
                simp only [List.length_map, HNL.out, ← HJ.out, Nat.sub_self, List.map_cons, List.set_cons_zero, List.map_append, List.map_nil, List.append_assoc, List.cons_append, List.nil_append]
              rw [← e]; exact HO6.out
            · have hgn : ¬ ((P gv ∧ gv < w.heap.size) ∨ (w.heap.size ≤ gv ∧ gv ≠ gv)) := by have := HGV.out; omega
              rcases List.mem_append.1 hp with hp | hp
              · exact TrIn.grown HG6.out hgn (TrIn.below HB5.out (HTNN.out p hp))
              · rw [List.mem_singleton] at hp
                subst hp
                exact TrIn.grown HG6.out hgn (TrIn.mono (fun x hx _ => by rcases hx with hx | hx; exact .inl hx; exact .inr ⟨by have := HBR.out.size; omega, by omega⟩) HT5.out)
            · exact (HBR.out.trans (HB5.out.mono HBR.out.size)).grown HG6.out (by have := HBR.out.size; omega) (by intro k hk; cases hk; exact HGV.out)
          have hg6l : gv < w6.heap.size := by omega
          go_wp2
          go_roundg Bs.length
          case measure => first | omega | (rw [hgg]; simp)
          case rel => exact ⟨As ++ [(pb, T)], Bs, ns ++ [(b', Lm.chgAt f T (K - F))], F + T.sz, rfl, HEND, by rw [List.length_append, ← HJ.out]; go_num, by go_num, hF2, hg6l⟩
        · have HEND : Hid (ks = (As ++ [(pb, T)]) ++ Bs ∧ (ns ++ [(pb, T)]).map Prod.snd = chgL f K 1 ((As ++ [(pb, T)]).map Prod.snd) ∧ F + T.sz = 1 + szL ((As ++ [(pb, T)]).map Prod.snd) ∧ wr.ownsRow w.heap.size 68 1 (.slice (some ⟨gv, 0, none⟩) q cv) q (ptrsV ((ns ++ [(pb, T)]).map Prod.fst ++ Bs.map Prod.fst)) ∧ (∀ p ∈ ns ++ [(pb, T)], TrIn wr (fun x => (P x ∧ x < w.heap.size) ∨ (w.heap.size ≤ x ∧ x ≠ gv)) p.2 p.1) ∧ Below w.heap.size w wr) := by
            refine ⟨by rw [e1]; simp, ?_, by rw [e3, List.map_append, szL_app]; simp [szL]; omega, ?_, fun p hp => ?_, hBr⟩
            · rw [List.map_append, List.map_append, chgL_app, e2]
              simp only [List.map_cons, List.map_nil, chgL]
              rw [← e3, if_neg hin]
            · have e : (ns ++ [(pb, T)]).map Prod.fst ++ Bs.map Prod.fst = ns.map Prod.fst ++ ((pb, T) :: Bs).map Prod.fst := by simp
              rw [e]; exact hOw
            · rcases List.mem_append.1 hp with hp | hp
              · exact hTn p hp
              · rw [List.mem_singleton] at hp
                subst hp
                exact TrIn.mono (fun x hx _ => .inl hx) HTP.out
          clear e1 e2 e3 hOw hTn hBr hTp hTp0 hkids hTm HS hqs
          by_cases hlo : F ≤ K
          · have hi1 : (F : Int) ≤ (K : Int) := by omega
            have hi2 : ¬ (K : Int) < (F : Int) + (T.sz : Int) := by omega
            go_wp2
            go_roundg Bs.length
            case measure => first | omega | (rw [hgg]; simp)
            case rel => exact ⟨As ++ [(pb, T)], Bs, ns ++ [(pb, T)], F + T.sz, rfl, HEND, by rw [List.length_append, ← HJ.out]; go_num, by go_num, hF2, hgvl⟩
          · have hi1 : ¬ (F : Int) ≤ (K : Int) := by omega
            go_wp2
            go_roundg Bs.length
            case measure => first | omega | (rw [hgg]; simp)
            case rel => exact ⟨As ++ [(pb, T)], Bs, ns ++ [(pb, T)], F + T.sz, rfl, HEND, by rw [List.length_append, ← HJ.out]; go_num, by go_num, hF2, hgvl⟩
theorem changedAt_all (cf : Nat) (pre : Lm → Bool) (f : Lm → Lm) (Z M : Nat) (eg : ∀ args w, (callFunc cf args).run Try.prog w = .ok (.enter cf args) w) (hf : ∀ s, (f s).sz ≤ M + s.sz) (hZ : Z ≤ 1000) (hM : M ≤ 900000) (hch : ChgOk cf pre f Z) : ∀ N, ChgC cf pre f Z N := by
  intro N
  induction N using Nat.strongRecOn with
  | _ N IH => exact changedAt_step cf pre f Z M eg hf hZ hM hch N IH
end Go.Proofs.Ytnnhedncdpfiaaa.CB

/-
  A step of a combinator is a change of its first node that takes just what stands behind it (plain).
-/
namespace Go.Proofs.Ytnnhedncdpfiaaa.CB
open Go.RowKit BL
set_option linter.unusedVariables false

theorem Lm.stp_frst : ∀ t : Lm, t.stp = t.frst.map fun k => Lm.chgAt con t k
  | .var _ => rfl
  | .app f x => by
    have h1 := f.stp_frst
    have h2 := x.stp_frst
    rw [Lm.stp, Lm.frst]
    cases hh : (Lm.app f x).hd with
    | some r => simp [Lm.isR, hh, Lm.chgAt, con]
    | none =>
      simp only [Lm.isR, hh, Option.isSome_none, Bool.false_eq_true, if_false]
      rw [h1, h2]
      cases hf : f.frst with
      | some k =>
        have := Lm.frst_lt hf
        simp [Lm.chgAt, this]
      | none =>
        cases hx : x.frst with
        | none => simp
        | some k =>
          have := Lm.frst_lt hx
          simp only [Option.map_none, Option.map_some, Option.some.injEq]
          rw [Lm.chgAt, if_neg (by omega), if_pos (by omega), Nat.add_sub_cancel]
theorem Lm.frst_sub : ∀ {t : Lm} {k : Nat}, t.frst = some k → ∃ s, t.subAt k = some s ∧ s.isR = true
  | .var _, k, h => by cases h
  | .app f x, k, h => by
    rw [Lm.frst] at h
    split at h
    · next hr => injection h with h; subst h; exact ⟨_, by rw [Lm.subAt], hr⟩
    · split at h
      · next k1 h1 =>
        injection h with h; subst h
        obtain ⟨s, hs, hr⟩ := Lm.frst_sub h1
        exact ⟨s, by rw [Lm.subAt, if_pos (Lm.frst_lt h1)]; exact hs, hr⟩
      · next h1 =>
        cases hx : x.frst with
        | none => rw [hx] at h; cases h
        | some k2 =>
          rw [hx] at h; injection h with h; subst h
          obtain ⟨s, hs, hr⟩ := Lm.frst_sub hx
          exact ⟨s, by rw [Lm.subAt, if_neg (by omega), Nat.add_sub_cancel]; exact hs, hr⟩
theorem Lm.walk_frst : ∀ (t : Lm) (a : Nat) (u : Int) (m : Nat), ((t.walk a u m).find? fun s => s.t.isR).map (fun s => s.at_) = t.frst.map fun k => k + a
  | .var c, a, u, m => by simp [Lm.walk, Lm.frst, Lm.isR, Lm.hd]
  | .app f x, a, u, m => by
    have h1 := f.walk_frst
    have h2 := x.walk_frst
    rw [Lm.walk, Lm.frst, List.find?_cons]
    simp only
    cases hr : (Lm.app f x).isR with
    | true => simp
    | false =>
      simp only [Bool.false_eq_true, if_false]
      rw [List.find?_append]
      cases hf : f.frst with
      | some k =>
        have := h1 (a + 1) a m
        rw [hf] at this
        cases hq : (f.walk (a + 1) a m).find? (fun s => s.t.isR) with
        | none => rw [hq] at this; cases this
        | some s => rw [hq] at this; simp at this; simp; omega
      | none =>
        have := h1 (a + 1) a m
        rw [hf] at this
        cases hq : (f.walk (a + 1) a m).find? (fun s => s.t.isR) with
        | some s => rw [hq] at this; cases this
        | none =>
          rw [Option.none_or, h2]
          cases x.frst with
          | none => rfl
          | some k => simp; omega
theorem frst_none_of {t : Lm} {ys : List (Spot × Nat)} (h : ys.map Prod.fst = t.walk 0 (-1) 0) (hall : ∀ y ∈ ys, y.1.t.isR = false) : t.frst = none := by
  have hw := Lm.walk_frst t 0 (-1) 0
  rw [← h, List.find?_eq_none.2 (fun s hs => by obtain ⟨y, hy, rfl⟩ := List.mem_map.1 hs; simp [hall y hy])] at hw
  cases hf : t.frst with
  | none => rfl
  | some k => rw [hf] at hw; cases hw
theorem frst_one_of {t : Lm} {pre : List (Spot × Nat)} {s : Spot} {post : List Spot} (h : t.walk 0 (-1) 0 = pre.map Prod.fst ++ s :: post) (hall : ∀ y ∈ pre, y.1.t.isR = false) (hx : s.t.isR = true) : t.frst = some s.at_ := by
  have hw := Lm.walk_frst t 0 (-1) 0
  have hn : (pre.map Prod.fst).find? (fun s => s.t.isR) = none := List.find?_eq_none.2 (fun s hs => by obtain ⟨y, hy, rfl⟩ := List.mem_map.1 hs; simp [hall y hy])
  rw [h, List.find?_append, hn, Option.none_or, List.find?_cons, hx] at hw
  cases hf : t.frst with
  | none => rw [hf] at hw; cases hw
  | some k => rw [hf] at hw; simp at hw; rw [hw]
end Go.Proofs.Ytnnhedncdpfiaaa.CB

/-
  What contracted of the program makes, and a tree with a node contracted.
-/
namespace Go.Proofs.Ytnnhedncdpfiaaa.CB
open Go.RowKit BL
set_option linter.unusedVariables false

theorem isR_form {t : Lm} (h : t.isR = true) : (∃ x, t = .app (.var .i) x) ∨ (∃ y x, t = .app (.app (.var .k) y) x) ∨ (∃ v y x, t = .app (.app (.app (.var .s) v) y) x) := by
  match t with
  | .var c => simp [Lm.isR, Lm.hd] at h
  | .app (.var c) x => cases c <;> simp [Lm.isR, Lm.hd] at h; exact .inl ⟨_, rfl⟩
  | .app (.app (.var c) y) x => cases c <;> simp [Lm.isR, Lm.hd] at h; exact .inr (.inl ⟨_, _, rfl⟩)
  | .app (.app (.app (.var c) z) y) x => cases c <;> simp [Lm.isR, Lm.hd] at h; exact .inr (.inr ⟨_, _, _, rfl⟩)
  | .app (.app (.app (.app f v) z) y) x => simp [Lm.isR, Lm.hd] at h
set_option maxHeartbeats 16000000 in
set_option maxRecDepth 100000 in
theorem contracted_any : ChgOk 62 Lm.isR con 400 := by
  intro t b P w hT hred hsz hbd
  clear hbd
  rcases isR_form hred with ⟨x, rfl⟩ | ⟨y, x, rfl⟩ | ⟨v, y, x, rfl⟩
  · obtain ⟨_, u, g, c, b1, b2, hRb, hg, g0, g1, hT1, hT2⟩ := hT
    obtain ⟨_, u1, o1, c1, hRb1⟩ := hT1
    have k3 : w.cell? ⟨b, 3, none⟩ = some (.slice (some ⟨g, 0, none⟩) 2 c) := by rw [cell_of_row _ _ _ _ _ _ hRb]; rfl
    have l0 : w.cell? ⟨b1, 0, none⟩ = some (.int .i64 5) := by rw [cell_of_row _ _ _ _ _ _ hRb1]; rfl
    have hbl := hRb.lt
    have hb1l := hRb1.lt
    have hgl := hg.1
    have HTX := hideT' hT2
    clear hRb hRb1 hT2 hred hg hsz
    show Calls Try.prog 62 #[.pointer (some ⟨b, 0, none⟩)] w fun e w' => (∃ b', e = .returned (.pointer (some ⟨b', 0, none⟩)) ∧ TrIn w' (fun x => P x ∨ w.heap.size ≤ x) x b') ∧ Below w.heap.size w w'
    go_enter Try.func62, Try.ntmps62
    go_wp2_with fail
    refine held_begin (fun w' => ∀ x, x < w.heap.size → w'.heap[x]? = w.heap[x]?) (by kernel_rfl) ?_
    have hS : ∀ x, x < w.heap.size → w.drew.heap[x]? = w.heap[x]? := fun _ _ => rfl
    refine held_valS 0 (some 5) rfl rfl (by kernel_rfl) (by kernel_rfl) (by kernel_rfl) noPanic_put rfl (.pointer (some ⟨b, 0, none⟩)) (fun _ _ => by go_simp) hS ?_
    simp only [Act.put, List.setIfInBounds_toArray, List.set_cons_zero, List.set_cons_succ]
    refine held_valS 1 (some 6) rfl rfl (by kernel_rfl) (by kernel_rfl) (by kernel_rfl) noPanic_put rfl (.pointer (some ⟨b, 0, none⟩)) (fun _ _ => by go_simp) hS ?_
    simp only [Act.put, List.setIfInBounds_toArray, List.set_cons_zero, List.set_cons_succ]
    refine held_valS 2 (some 7) rfl rfl (by kernel_rfl) (by kernel_rfl) (by kernel_rfl) noPanic_put rfl (.pointer (some ⟨b, 3, none⟩)) (fun _ _ => by go_simp) hS ?_
    simp only [Act.put, List.setIfInBounds_toArray, List.set_cons_zero, List.set_cons_succ]
    refine held_valS 3 (some 8) rfl rfl (by kernel_rfl) (by kernel_rfl) (by kernel_rfl) noPanic_put rfl (.slice (some ⟨g, 0, none⟩) 2 c) (fun w' h => by have q := ((World.cell?_of_block (w := w) (a := ⟨b, 3, none⟩) (h (b) (by omega))).trans k3); go_simp) hS ?_
    simp only [Act.put, List.setIfInBounds_toArray, List.set_cons_zero, List.set_cons_succ]
    refine held_valS 4 (some 9) rfl rfl (by kernel_rfl) (by kernel_rfl) (by kernel_rfl) noPanic_put rfl (.pointer (some ⟨g, 0, none⟩)) (fun _ _ => by go_simp) hS ?_
    simp only [Act.put, List.setIfInBounds_toArray, List.set_cons_zero, List.set_cons_succ]
    refine held_valS 5 (some 10) rfl rfl (by kernel_rfl) (by kernel_rfl) (by kernel_rfl) noPanic_put rfl (.pointer (some ⟨b1, 0, none⟩)) (fun w' h => by have q := ((World.cell?_of_block (w := w) (a := ⟨g, 0, none⟩) (h (g) (by omega))).trans g0); go_simp) hS ?_
    simp only [Act.put, List.setIfInBounds_toArray, List.set_cons_zero, List.set_cons_succ]
    refine held_valS 6 (some 11) rfl rfl (by kernel_rfl) (by kernel_rfl) (by kernel_rfl) noPanic_put rfl (.pointer (some ⟨b, 0, none⟩)) (fun _ _ => by go_simp) hS ?_
    simp only [Act.put, List.setIfInBounds_toArray, List.set_cons_zero, List.set_cons_succ]
    refine held_valS 7 (some 12) rfl rfl (by kernel_rfl) (by kernel_rfl) (by kernel_rfl) noPanic_put rfl (.pointer (some ⟨b, 0, none⟩)) (fun _ _ => by go_simp) hS ?_
    simp only [Act.put, List.setIfInBounds_toArray, List.set_cons_zero, List.set_cons_succ]
    refine held_valS 8 (some 13) rfl rfl (by kernel_rfl) (by kernel_rfl) (by kernel_rfl) noPanic_put rfl (.pointer (some ⟨b, 3, none⟩)) (fun _ _ => by go_simp) hS ?_
    simp only [Act.put, List.setIfInBounds_toArray, List.set_cons_zero, List.set_cons_succ]
    refine held_valS 9 (some 14) rfl rfl (by kernel_rfl) (by kernel_rfl) (by kernel_rfl) noPanic_put rfl (.slice (some ⟨g, 0, none⟩) 2 c) (fun w' h => by have q := ((World.cell?_of_block (w := w) (a := ⟨b, 3, none⟩) (h (b) (by omega))).trans k3); go_simp) hS ?_
    simp only [Act.put, List.setIfInBounds_toArray, List.set_cons_zero, List.set_cons_succ]
    refine held_valS 10 (some 15) rfl rfl (by kernel_rfl) (by kernel_rfl) (by kernel_rfl) noPanic_put rfl (.pointer (some ⟨g, 1, none⟩)) (fun _ _ => by go_simp) hS ?_
    simp only [Act.put, List.setIfInBounds_toArray, List.set_cons_zero, List.set_cons_succ]
    refine held_valS 11 (some 16) rfl rfl (by kernel_rfl) (by kernel_rfl) (by kernel_rfl) noPanic_put rfl (.pointer (some ⟨b2, 0, none⟩)) (fun w' h => by have q := ((World.cell?_of_block (w := w) (a := ⟨g, 1, none⟩) (h (g) (by omega))).trans g1); go_simp) hS ?_
    simp only [Act.put, List.setIfInBounds_toArray, List.set_cons_zero, List.set_cons_succ]
    refine held_assign 12 (some 3) (by kernel_rfl) rfl rfl _ rfl rfl (.pointer (some ⟨b1, 0, none⟩)) rfl hS ?_
    simp only [Act.put, List.setIfInBounds_toArray, List.set_cons_zero, List.set_cons_succ]
    refine held_assign 13 (some 4) (by kernel_rfl) rfl rfl _ rfl rfl (.pointer (some ⟨b2, 0, none⟩)) rfl hS ?_
    simp only [Act.put, List.setIfInBounds_toArray, List.set_cons_zero, List.set_cons_succ]
    refine wpAnyH_done (by kernel_rfl) ?_ _
    refine NoPanic.normal ?_
    clear hS
    obtain ⟨W, hW⟩ : ∃ W, W = w.drew := ⟨_, rfl⟩
    have hBW : Below w.heap.size w W := by rw [hW]; exact (Below.refl _ _).drew
    have hsW : W.heap.size = w.heap.size := by rw [hW]; rfl
    have l0 : W.cell? ⟨b1, 0, none⟩ = some (.int .i64 5) := by rw [hBW.cell (p := ⟨b1, 0, none⟩) hb1l]; exact l0
    rw [← hW]
    clear hW
    have HBW := hideT' hBW
    clear hBW
    have hb1W : b1 < W.heap.size := by omega
    go_wp2
    go_ret
    exact ⟨⟨_, rfl, TrIn.keep (w := w) HBW.out.size (fun x _ hx => HBW.out.block x hx) (fun x h _ => .inl h) HTX.out⟩, HBW.out⟩
  · obtain ⟨_, u, g, c, b1, b2, hRb, hg, g0, g1, hT1, hT2⟩ := hT
    obtain ⟨_, u1, g1', c1, b3, b4, hRb1, hg1, p0, p1, hT3, hT4⟩ := hT1
    obtain ⟨_, u3, o3, c3, hRb3⟩ := hT3
    have k3 : w.cell? ⟨b, 3, none⟩ = some (.slice (some ⟨g, 0, none⟩) 2 c) := by rw [cell_of_row _ _ _ _ _ _ hRb]; rfl
    have l0 : w.cell? ⟨b1, 0, none⟩ = some (.int .i64 2) := by rw [cell_of_row _ _ _ _ _ _ hRb1]; rfl
    have l3 : w.cell? ⟨b1, 3, none⟩ = some (.slice (some ⟨g1', 0, none⟩) 2 c1) := by rw [cell_of_row _ _ _ _ _ _ hRb1]; rfl
    have m0 : w.cell? ⟨b3, 0, none⟩ = some (.int .i64 4) := by rw [cell_of_row _ _ _ _ _ _ hRb3]; rfl
    have hbl := hRb.lt
    have hb1l := hRb1.lt
    have hb3l := hRb3.lt
    have hgl := hg.1
    have hgl1 := hg1.1
    have HTY := hideT' hT4
    clear hRb hRb1 hRb3 hT2 hT4 hred hg hg1 hsz
    show Calls Try.prog 62 #[.pointer (some ⟨b, 0, none⟩)] w fun e w' => (∃ b', e = .returned (.pointer (some ⟨b', 0, none⟩)) ∧ TrIn w' (fun x => P x ∨ w.heap.size ≤ x) y b') ∧ Below w.heap.size w w'
    go_enter Try.func62, Try.ntmps62
    go_wp2_with fail
    refine held_begin (fun w' => ∀ x, x < w.heap.size → w'.heap[x]? = w.heap[x]?) (by kernel_rfl) ?_
    have hS : ∀ x, x < w.heap.size → w.drew.heap[x]? = w.heap[x]? := fun _ _ => rfl
    refine held_valS 0 (some 5) rfl rfl (by kernel_rfl) (by kernel_rfl) (by kernel_rfl) noPanic_put rfl (.pointer (some ⟨b, 0, none⟩)) (fun _ _ => by go_simp) hS ?_
    simp only [Act.put, List.setIfInBounds_toArray, List.set_cons_zero, List.set_cons_succ]
    refine held_valS 1 (some 6) rfl rfl (by kernel_rfl) (by kernel_rfl) (by kernel_rfl) noPanic_put rfl (.pointer (some ⟨b, 0, none⟩)) (fun _ _ => by go_simp) hS ?_
    simp only [Act.put, List.setIfInBounds_toArray, List.set_cons_zero, List.set_cons_succ]
    refine held_valS 2 (some 7) rfl rfl (by kernel_rfl) (by kernel_rfl) (by kernel_rfl) noPanic_put rfl (.pointer (some ⟨b, 3, none⟩)) (fun _ _ => by go_simp) hS ?_
    simp only [Act.put, List.setIfInBounds_toArray, List.set_cons_zero, List.set_cons_succ]
    refine held_valS 3 (some 8) rfl rfl (by kernel_rfl) (by kernel_rfl) (by kernel_rfl) noPanic_put rfl (.slice (some ⟨g, 0, none⟩) 2 c) (fun w' h => by have q := ((World.cell?_of_block (w := w) (a := ⟨b, 3, none⟩) (h (b) (by omega))).trans k3); go_simp) hS ?_
    simp only [Act.put, List.setIfInBounds_toArray, List.set_cons_zero, List.set_cons_succ]
    refine held_valS 4 (some 9) rfl rfl (by kernel_rfl) (by kernel_rfl) (by kernel_rfl) noPanic_put rfl (.pointer (some ⟨g, 0, none⟩)) (fun _ _ => by go_simp) hS ?_
    simp only [Act.put, List.setIfInBounds_toArray, List.set_cons_zero, List.set_cons_succ]
    refine held_valS 5 (some 10) rfl rfl (by kernel_rfl) (by kernel_rfl) (by kernel_rfl) noPanic_put rfl (.pointer (some ⟨b1, 0, none⟩)) (fun w' h => by have q := ((World.cell?_of_block (w := w) (a := ⟨g, 0, none⟩) (h (g) (by omega))).trans g0); go_simp) hS ?_
    simp only [Act.put, List.setIfInBounds_toArray, List.set_cons_zero, List.set_cons_succ]
    refine held_valS 6 (some 11) rfl rfl (by kernel_rfl) (by kernel_rfl) (by kernel_rfl) noPanic_put rfl (.pointer (some ⟨b, 0, none⟩)) (fun _ _ => by go_simp) hS ?_
    simp only [Act.put, List.setIfInBounds_toArray, List.set_cons_zero, List.set_cons_succ]
    refine held_valS 7 (some 12) rfl rfl (by kernel_rfl) (by kernel_rfl) (by kernel_rfl) noPanic_put rfl (.pointer (some ⟨b, 0, none⟩)) (fun _ _ => by go_simp) hS ?_
    simp only [Act.put, List.setIfInBounds_toArray, List.set_cons_zero, List.set_cons_succ]
    refine held_valS 8 (some 13) rfl rfl (by kernel_rfl) (by kernel_rfl) (by kernel_rfl) noPanic_put rfl (.pointer (some ⟨b, 3, none⟩)) (fun _ _ => by go_simp) hS ?_
    simp only [Act.put, List.setIfInBounds_toArray, List.set_cons_zero, List.set_cons_succ]
    refine held_valS 9 (some 14) rfl rfl (by kernel_rfl) (by kernel_rfl) (by kernel_rfl) noPanic_put rfl (.slice (some ⟨g, 0, none⟩) 2 c) (fun w' h => by have q := ((World.cell?_of_block (w := w) (a := ⟨b, 3, none⟩) (h (b) (by omega))).trans k3); go_simp) hS ?_
    simp only [Act.put, List.setIfInBounds_toArray, List.set_cons_zero, List.set_cons_succ]
    refine held_valS 10 (some 15) rfl rfl (by kernel_rfl) (by kernel_rfl) (by kernel_rfl) noPanic_put rfl (.pointer (some ⟨g, 1, none⟩)) (fun _ _ => by go_simp) hS ?_
    simp only [Act.put, List.setIfInBounds_toArray, List.set_cons_zero, List.set_cons_succ]
    refine held_valS 11 (some 16) rfl rfl (by kernel_rfl) (by kernel_rfl) (by kernel_rfl) noPanic_put rfl (.pointer (some ⟨b2, 0, none⟩)) (fun w' h => by have q := ((World.cell?_of_block (w := w) (a := ⟨g, 1, none⟩) (h (g) (by omega))).trans g1); go_simp) hS ?_
    simp only [Act.put, List.setIfInBounds_toArray, List.set_cons_zero, List.set_cons_succ]
    refine held_assign 12 (some 3) (by kernel_rfl) rfl rfl _ rfl rfl (.pointer (some ⟨b1, 0, none⟩)) rfl hS ?_
    simp only [Act.put, List.setIfInBounds_toArray, List.set_cons_zero, List.set_cons_succ]
    refine held_assign 13 (some 4) (by kernel_rfl) rfl rfl _ rfl rfl (.pointer (some ⟨b2, 0, none⟩)) rfl hS ?_
    simp only [Act.put, List.setIfInBounds_toArray, List.set_cons_zero, List.set_cons_succ]
    refine wpAnyH_done (by kernel_rfl) ?_ _
    refine NoPanic.normal ?_
    clear hS
    obtain ⟨W, hW⟩ : ∃ W, W = w.drew := ⟨_, rfl⟩
    have hBW : Below w.heap.size w W := by rw [hW]; exact (Below.refl _ _).drew
    have hsW : W.heap.size = w.heap.size := by rw [hW]; rfl
    have l0 : W.cell? ⟨b1, 0, none⟩ = some (.int .i64 2) := by rw [hBW.cell (p := ⟨b1, 0, none⟩) hb1l]; exact l0
    have l3 : W.cell? ⟨b1, 3, none⟩ = some (.slice (some ⟨g1', 0, none⟩) 2 c1) := by rw [hBW.cell (p := ⟨b1, 3, none⟩) hb1l]; exact l3
    have p0 : W.cell? ⟨g1', 0, none⟩ = some (.pointer (some ⟨b3, 0, none⟩)) := by rw [hBW.cell (p := ⟨g1', 0, none⟩) hgl1]; exact p0
    have p1 : W.cell? ⟨g1', 1, none⟩ = some (.pointer (some ⟨b4, 0, none⟩)) := by rw [hBW.cell (p := ⟨g1', 1, none⟩) hgl1]; exact p1
    have m0 : W.cell? ⟨b3, 0, none⟩ = some (.int .i64 4) := by rw [hBW.cell (p := ⟨b3, 0, none⟩) hb3l]; exact m0
    rw [← hW]
    clear hW
    have HBW := hideT' hBW
    clear hBW
    have hb1W : b1 < W.heap.size := by omega
    have hb3W : b3 < W.heap.size := by omega
    have hg1W : g1' < W.heap.size := by omega
    go_wp2
    go_ret
    exact ⟨⟨_, rfl, TrIn.keep (w := w) HBW.out.size (fun x _ hx => HBW.out.block x hx) (fun x h _ => .inl h) HTY.out⟩, HBW.out⟩
  · obtain ⟨_, u, g, c, b1, b2, hRb, hg, g0, g1, hT1, hT2⟩ := hT
    obtain ⟨_, u1, g1', c1, b3, b4, hRb1, hg1, p0, p1, hT3, hT4⟩ := hT1
    obtain ⟨_, u3, g3, c3, b5, b6, hRb3, hg3, q0, q1, hT5, hT6⟩ := hT3
    have k3 : w.cell? ⟨b, 3, none⟩ = some (.slice (some ⟨g, 0, none⟩) 2 c) := by rw [cell_of_row _ _ _ _ _ _ hRb]; rfl
    have l0 : w.cell? ⟨b1, 0, none⟩ = some (.int .i64 2) := by rw [cell_of_row _ _ _ _ _ _ hRb1]; rfl
    have l3 : w.cell? ⟨b1, 3, none⟩ = some (.slice (some ⟨g1', 0, none⟩) 2 c1) := by rw [cell_of_row _ _ _ _ _ _ hRb1]; rfl
    have m0 : w.cell? ⟨b3, 0, none⟩ = some (.int .i64 2) := by rw [cell_of_row _ _ _ _ _ _ hRb3]; rfl
    have m3 : w.cell? ⟨b3, 3, none⟩ = some (.slice (some ⟨g3, 0, none⟩) 2 c3) := by rw [cell_of_row _ _ _ _ _ _ hRb3]; rfl
    have hbl := hRb.lt
    have hb1l := hRb1.lt
    have hb3l := hRb3.lt
    have hgl := hg.1
    have hgl1 := hg1.1
    have hgl3 := hg3.1
    have HTX := hideT' hT2
    have HTY := hideT' hT4
    have HTV := hideT' hT6
    simp only [Lm.sz] at hsz
    clear hRb hRb1 hRb3 hT2 hT4 hT5 hT6 hred hg hg1 hg3
    show Calls Try.prog 62 #[.pointer (some ⟨b, 0, none⟩)] w fun e w' => (∃ b', e = .returned (.pointer (some ⟨b', 0, none⟩)) ∧ TrIn w' (fun x => P x ∨ w.heap.size ≤ x) (.app (.app v x) (.app y x)) b') ∧ Below w.heap.size w w'
    go_enter Try.func62, Try.ntmps62
    go_wp2_with fail
    refine held_begin (fun w' => ∀ x, x < w.heap.size → w'.heap[x]? = w.heap[x]?) (by kernel_rfl) ?_
    have hS : ∀ x, x < w.heap.size → w.drew.heap[x]? = w.heap[x]? := fun _ _ => rfl
    refine held_valS 0 (some 5) rfl rfl (by kernel_rfl) (by kernel_rfl) (by kernel_rfl) noPanic_put rfl (.pointer (some ⟨b, 0, none⟩)) (fun _ _ => by go_simp) hS ?_
    simp only [Act.put, List.setIfInBounds_toArray, List.set_cons_zero, List.set_cons_succ]
    refine held_valS 1 (some 6) rfl rfl (by kernel_rfl) (by kernel_rfl) (by kernel_rfl) noPanic_put rfl (.pointer (some ⟨b, 0, none⟩)) (fun _ _ => by go_simp) hS ?_
    simp only [Act.put, List.setIfInBounds_toArray, List.set_cons_zero, List.set_cons_succ]
    refine held_valS 2 (some 7) rfl rfl (by kernel_rfl) (by kernel_rfl) (by kernel_rfl) noPanic_put rfl (.pointer (some ⟨b, 3, none⟩)) (fun _ _ => by go_simp) hS ?_
    simp only [Act.put, List.setIfInBounds_toArray, List.set_cons_zero, List.set_cons_succ]
    refine held_valS 3 (some 8) rfl rfl (by kernel_rfl) (by kernel_rfl) (by kernel_rfl) noPanic_put rfl (.slice (some ⟨g, 0, none⟩) 2 c) (fun w' h => by have q := ((World.cell?_of_block (w := w) (a := ⟨b, 3, none⟩) (h (b) (by omega))).trans k3); go_simp) hS ?_
    simp only [Act.put, List.setIfInBounds_toArray, List.set_cons_zero, List.set_cons_succ]
    refine held_valS 4 (some 9) rfl rfl (by kernel_rfl) (by kernel_rfl) (by kernel_rfl) noPanic_put rfl (.pointer (some ⟨g, 0, none⟩)) (fun _ _ => by go_simp) hS ?_
    simp only [Act.put, List.setIfInBounds_toArray, List.set_cons_zero, List.set_cons_succ]
    refine held_valS 5 (some 10) rfl rfl (by kernel_rfl) (by kernel_rfl) (by kernel_rfl) noPanic_put rfl (.pointer (some ⟨b1, 0, none⟩)) (fun w' h => by have q := ((World.cell?_of_block (w := w) (a := ⟨g, 0, none⟩) (h (g) (by omega))).trans g0); go_simp) hS ?_
    simp only [Act.put, List.setIfInBounds_toArray, List.set_cons_zero, List.set_cons_succ]
    refine held_valS 6 (some 11) rfl rfl (by kernel_rfl) (by kernel_rfl) (by kernel_rfl) noPanic_put rfl (.pointer (some ⟨b, 0, none⟩)) (fun _ _ => by go_simp) hS ?_
    simp only [Act.put, List.setIfInBounds_toArray, List.set_cons_zero, List.set_cons_succ]
    refine held_valS 7 (some 12) rfl rfl (by kernel_rfl) (by kernel_rfl) (by kernel_rfl) noPanic_put rfl (.pointer (some ⟨b, 0, none⟩)) (fun _ _ => by go_simp) hS ?_
    simp only [Act.put, List.setIfInBounds_toArray, List.set_cons_zero, List.set_cons_succ]
    refine held_valS 8 (some 13) rfl rfl (by kernel_rfl) (by kernel_rfl) (by kernel_rfl) noPanic_put rfl (.pointer (some ⟨b, 3, none⟩)) (fun _ _ => by go_simp) hS ?_
    simp only [Act.put, List.setIfInBounds_toArray, List.set_cons_zero, List.set_cons_succ]
    refine held_valS 9 (some 14) rfl rfl (by kernel_rfl) (by kernel_rfl) (by kernel_rfl) noPanic_put rfl (.slice (some ⟨g, 0, none⟩) 2 c) (fun w' h => by have q := ((World.cell?_of_block (w := w) (a := ⟨b, 3, none⟩) (h (b) (by omega))).trans k3); go_simp) hS ?_
    simp only [Act.put, List.setIfInBounds_toArray, List.set_cons_zero, List.set_cons_succ]
    refine held_valS 10 (some 15) rfl rfl (by kernel_rfl) (by kernel_rfl) (by kernel_rfl) noPanic_put rfl (.pointer (some ⟨g, 1, none⟩)) (fun _ _ => by go_simp) hS ?_
    simp only [Act.put, List.setIfInBounds_toArray, List.set_cons_zero, List.set_cons_succ]
    refine held_valS 11 (some 16) rfl rfl (by kernel_rfl) (by kernel_rfl) (by kernel_rfl) noPanic_put rfl (.pointer (some ⟨b2, 0, none⟩)) (fun w' h => by have q := ((World.cell?_of_block (w := w) (a := ⟨g, 1, none⟩) (h (g) (by omega))).trans g1); go_simp) hS ?_
    simp only [Act.put, List.setIfInBounds_toArray, List.set_cons_zero, List.set_cons_succ]
    refine held_assign 12 (some 3) (by kernel_rfl) rfl rfl _ rfl rfl (.pointer (some ⟨b1, 0, none⟩)) rfl hS ?_
    simp only [Act.put, List.setIfInBounds_toArray, List.set_cons_zero, List.set_cons_succ]
    refine held_assign 13 (some 4) (by kernel_rfl) rfl rfl _ rfl rfl (.pointer (some ⟨b2, 0, none⟩)) rfl hS ?_
    simp only [Act.put, List.setIfInBounds_toArray, List.set_cons_zero, List.set_cons_succ]
    refine wpAnyH_done (by kernel_rfl) ?_ _
    refine NoPanic.normal ?_
    clear hS
    obtain ⟨W, hW⟩ : ∃ W, W = w.drew := ⟨_, rfl⟩
    have hBW : Below w.heap.size w W := by rw [hW]; exact (Below.refl _ _).drew
    have hsW : W.heap.size = w.heap.size := by rw [hW]; rfl
    have l0 : W.cell? ⟨b1, 0, none⟩ = some (.int .i64 2) := by rw [hBW.cell (p := ⟨b1, 0, none⟩) hb1l]; exact l0
    have l3 : W.cell? ⟨b1, 3, none⟩ = some (.slice (some ⟨g1', 0, none⟩) 2 c1) := by rw [hBW.cell (p := ⟨b1, 3, none⟩) hb1l]; exact l3
    have p0 : W.cell? ⟨g1', 0, none⟩ = some (.pointer (some ⟨b3, 0, none⟩)) := by rw [hBW.cell (p := ⟨g1', 0, none⟩) hgl1]; exact p0
    have p1 : W.cell? ⟨g1', 1, none⟩ = some (.pointer (some ⟨b4, 0, none⟩)) := by rw [hBW.cell (p := ⟨g1', 1, none⟩) hgl1]; exact p1
    have m0 : W.cell? ⟨b3, 0, none⟩ = some (.int .i64 2) := by rw [hBW.cell (p := ⟨b3, 0, none⟩) hb3l]; exact m0
    have m3 : W.cell? ⟨b3, 3, none⟩ = some (.slice (some ⟨g3, 0, none⟩) 2 c3) := by rw [hBW.cell (p := ⟨b3, 3, none⟩) hb3l]; exact m3
    have q1 : W.cell? ⟨g3, 1, none⟩ = some (.pointer (some ⟨b6, 0, none⟩)) := by rw [hBW.cell (p := ⟨g3, 1, none⟩) hgl3]; exact q1
    rw [← hW]
    clear hW
    have HBW := hideT' hBW
    clear hBW
    have HT3 : Hid (TrIn W P v b6 ∧ TrIn W P y b4 ∧ TrIn W P x b2) := ⟨TrIn.below HBW.out HTV.out, TrIn.below HBW.out HTY.out, TrIn.below HBW.out HTX.out⟩
    have hb1W : b1 < W.heap.size := by omega
    have hb3W : b3 < W.heap.size := by omega
    have hg1W : g1' < W.heap.size := by omega
    go_wp2_with fail
    refine held_begin (fun w' => ∀ x, x < W.heap.size → w'.heap[x]? = W.heap[x]?) (by kernel_rfl) ?_
    have hS : ∀ x, x < W.heap.size → W.drew.heap[x]? = W.heap[x]? := fun _ _ => rfl
    refine held_valS 0 (some 43) rfl rfl (by kernel_rfl) (by kernel_rfl) (by kernel_rfl) noPanic_put rfl (.pointer (some ⟨b1, 0, none⟩)) (fun _ _ => by go_simp) hS ?_
    simp only [Act.put, List.setIfInBounds_toArray, List.set_cons_zero, List.set_cons_succ]
    refine held_valS 1 (some 44) rfl rfl (by kernel_rfl) (by kernel_rfl) (by kernel_rfl) noPanic_put rfl (.pointer (some ⟨b1, 0, none⟩)) (fun _ _ => by go_simp) hS ?_
    simp only [Act.put, List.setIfInBounds_toArray, List.set_cons_zero, List.set_cons_succ]
    refine held_valS 2 (some 45) rfl rfl (by kernel_rfl) (by kernel_rfl) (by kernel_rfl) noPanic_put rfl (.pointer (some ⟨b1, 3, none⟩)) (fun _ _ => by go_simp) hS ?_
    simp only [Act.put, List.setIfInBounds_toArray, List.set_cons_zero, List.set_cons_succ]
    refine held_valS 3 (some 46) rfl rfl (by kernel_rfl) (by kernel_rfl) (by kernel_rfl) noPanic_put rfl (.slice (some ⟨g1', 0, none⟩) 2 c1) (fun w' h => by have q := ((World.cell?_of_block (w := W) (a := ⟨b1, 3, none⟩) (h (b1) (by omega))).trans l3); go_simp) hS ?_
    simp only [Act.put, List.setIfInBounds_toArray, List.set_cons_zero, List.set_cons_succ]
    refine held_valS 4 (some 47) rfl rfl (by kernel_rfl) (by kernel_rfl) (by kernel_rfl) noPanic_put rfl (.pointer (some ⟨g1', 0, none⟩)) (fun _ _ => by go_simp) hS ?_
    simp only [Act.put, List.setIfInBounds_toArray, List.set_cons_zero, List.set_cons_succ]
    refine held_valS 5 (some 48) rfl rfl (by kernel_rfl) (by kernel_rfl) (by kernel_rfl) noPanic_put rfl (.pointer (some ⟨b3, 0, none⟩)) (fun w' h => by have q := ((World.cell?_of_block (w := W) (a := ⟨g1', 0, none⟩) (h (g1') (by omega))).trans p0); go_simp) hS ?_
    simp only [Act.put, List.setIfInBounds_toArray, List.set_cons_zero, List.set_cons_succ]
    refine held_valS 6 (some 49) rfl rfl (by kernel_rfl) (by kernel_rfl) (by kernel_rfl) noPanic_put rfl (.pointer (some ⟨b3, 0, none⟩)) (fun _ _ => by go_simp) hS ?_
    simp only [Act.put, List.setIfInBounds_toArray, List.set_cons_zero, List.set_cons_succ]
    refine held_valS 7 (some 50) rfl rfl (by kernel_rfl) (by kernel_rfl) (by kernel_rfl) noPanic_put rfl (.pointer (some ⟨b3, 3, none⟩)) (fun _ _ => by go_simp) hS ?_
    simp only [Act.put, List.setIfInBounds_toArray, List.set_cons_zero, List.set_cons_succ]
    refine held_valS 8 (some 51) rfl rfl (by kernel_rfl) (by kernel_rfl) (by kernel_rfl) noPanic_put rfl (.slice (some ⟨g3, 0, none⟩) 2 c3) (fun w' h => by have q := ((World.cell?_of_block (w := W) (a := ⟨b3, 3, none⟩) (h (b3) (by omega))).trans m3); go_simp) hS ?_
    simp only [Act.put, List.setIfInBounds_toArray, List.set_cons_zero, List.set_cons_succ]
    refine held_valS 9 (some 52) rfl rfl (by kernel_rfl) (by kernel_rfl) (by kernel_rfl) noPanic_put rfl (.pointer (some ⟨g3, 1, none⟩)) (fun _ _ => by go_simp) hS ?_
    simp only [Act.put, List.setIfInBounds_toArray, List.set_cons_zero, List.set_cons_succ]
    refine held_valS 10 (some 53) rfl rfl (by kernel_rfl) (by kernel_rfl) (by kernel_rfl) noPanic_put rfl (.pointer (some ⟨b6, 0, none⟩)) (fun w' h => by have q := ((World.cell?_of_block (w := W) (a := ⟨g3, 1, none⟩) (h (g3) (by omega))).trans q1); go_simp) hS ?_
    simp only [Act.put, List.setIfInBounds_toArray, List.set_cons_zero, List.set_cons_succ]
    refine held_valS 11 (some 54) rfl rfl (by kernel_rfl) (by kernel_rfl) (by kernel_rfl) noPanic_put rfl (.pointer (some ⟨b2, 0, none⟩)) (fun _ _ => by go_simp) hS ?_
    simp only [Act.put, List.setIfInBounds_toArray, List.set_cons_zero, List.set_cons_succ]
    refine held_valS 13 (some 56) rfl rfl (by kernel_rfl) (by kernel_rfl) (by kernel_rfl) noPanic_put rfl (.pointer (some ⟨b1, 0, none⟩)) (fun _ _ => by go_simp) hS ?_
    simp only [Act.put, List.setIfInBounds_toArray, List.set_cons_zero, List.set_cons_succ]
    refine held_valS 14 (some 57) rfl rfl (by kernel_rfl) (by kernel_rfl) (by kernel_rfl) noPanic_put rfl (.pointer (some ⟨b1, 0, none⟩)) (fun _ _ => by go_simp) hS ?_
    simp only [Act.put, List.setIfInBounds_toArray, List.set_cons_zero, List.set_cons_succ]
    refine held_valS 15 (some 58) rfl rfl (by kernel_rfl) (by kernel_rfl) (by kernel_rfl) noPanic_put rfl (.pointer (some ⟨b1, 3, none⟩)) (fun _ _ => by go_simp) hS ?_
    simp only [Act.put, List.setIfInBounds_toArray, List.set_cons_zero, List.set_cons_succ]
    refine held_valS 16 (some 59) rfl rfl (by kernel_rfl) (by kernel_rfl) (by kernel_rfl) noPanic_put rfl (.slice (some ⟨g1', 0, none⟩) 2 c1) (fun w' h => by have q := ((World.cell?_of_block (w := W) (a := ⟨b1, 3, none⟩) (h (b1) (by omega))).trans l3); go_simp) hS ?_
    simp only [Act.put, List.setIfInBounds_toArray, List.set_cons_zero, List.set_cons_succ]
    refine held_valS 17 (some 60) rfl rfl (by kernel_rfl) (by kernel_rfl) (by kernel_rfl) noPanic_put rfl (.pointer (some ⟨g1', 1, none⟩)) (fun _ _ => by go_simp) hS ?_
    simp only [Act.put, List.setIfInBounds_toArray, List.set_cons_zero, List.set_cons_succ]
    refine held_valS 18 (some 61) rfl rfl (by kernel_rfl) (by kernel_rfl) (by kernel_rfl) noPanic_put rfl (.pointer (some ⟨b4, 0, none⟩)) (fun w' h => by have q := ((World.cell?_of_block (w := W) (a := ⟨g1', 1, none⟩) (h (g1') (by omega))).trans p1); go_simp) hS ?_
    simp only [Act.put, List.setIfInBounds_toArray, List.set_cons_zero, List.set_cons_succ]
    refine held_valS 19 (some 62) rfl rfl (by kernel_rfl) (by kernel_rfl) (by kernel_rfl) noPanic_put rfl (.pointer (some ⟨b2, 0, none⟩)) (fun _ _ => by go_simp) hS ?_
    simp only [Act.put, List.setIfInBounds_toArray, List.set_cons_zero, List.set_cons_succ]
    have hbw : Below W.heap.size W W.drew := (Below.refl _ _).drew
    refine held_call 12 (some 55) (by kernel_rfl) rfl rfl rfl 78 #[.pointer (some ⟨b6, 0, none⟩), .pointer (some ⟨b2, 0, none⟩)] (by go_simp) _ (applied_any v x b6 b2 P _ (TrIn.below hbw HT3.out.1) (TrIn.below hbw HT3.out.2.2) (by omega) (by omega)) ?_
    rintro e w5 ⟨⟨n5, rfl, hT5⟩, hw5⟩
    have hw5 : Below W.heap.size W w5 := ⟨hw5.os, hw5.tape, hw5.output, hw5.size, hw5.block⟩
    have hs5 := hw5.size
    have hS5 : ∀ x, x < W.heap.size → w5.heap[x]? = W.heap[x]? := fun x hx => hw5.block x hx
    refine ⟨_, rfl, hS5, ?_⟩
    simp only [Act.put, List.setIfInBounds_toArray, List.set_cons_zero, List.set_cons_succ]
    have hT5' : TrIn w5 (fun x => P x ∨ w.heap.size ≤ x) (.app v x) n5 := TrIn.mono (fun y hy _ => hy.imp id (fun h => (by have h : W.heap.size ≤ y := h; omega))) hT5
    refine held_call 20 (some 63) (by kernel_rfl) rfl rfl rfl 78 #[.pointer (some ⟨b4, 0, none⟩), .pointer (some ⟨b2, 0, none⟩)] (by go_simp) _ (applied_any y x b4 b2 P w5 (TrIn.below hw5 HT3.out.2.1) (TrIn.below hw5 HT3.out.2.2) (by omega) (by omega)) ?_
    rintro e w6 ⟨⟨n6, rfl, hT6⟩, hw6⟩
    have hs6 := hw6.size
    have hS6 : ∀ x, x < W.heap.size → w6.heap[x]? = W.heap[x]? := fun x hx => (hw6.block x (by omega)).trans (hS5 x hx)
    refine ⟨_, rfl, hS6, ?_⟩
    simp only [Act.put, List.setIfInBounds_toArray, List.set_cons_zero, List.set_cons_succ]
    have hT6' : TrIn w6 (fun x => P x ∨ w.heap.size ≤ x) (.app y x) n6 := TrIn.mono (fun y hy _ => hy.imp id (fun h => by omega)) hT6
    refine held_call 21 (some 64) (by kernel_rfl) rfl rfl rfl 78 #[.pointer (some ⟨n5, 0, none⟩), .pointer (some ⟨n6, 0, none⟩)] (by go_simp) _ (applied_any (.app v x) (.app y x) n5 n6 (fun x => P x ∨ w.heap.size ≤ x) w6 (TrIn.below hw6 hT5') hT6' (by simp only [Lm.sz]; omega) (by simp only [Lm.sz]; omega)) ?_
    rintro e w7 ⟨⟨n7, rfl, hT7⟩, hw7⟩
    have hs7 := hw7.size
    have hS7 : ∀ x, x < W.heap.size → w7.heap[x]? = W.heap[x]? := fun x hx => (hw7.block x (by omega)).trans (hS6 x hx)
    refine ⟨_, rfl, hS7, ?_⟩
    simp only [Act.put, List.setIfInBounds_toArray, List.set_cons_zero, List.set_cons_succ]
    refine held_assign 22 (some 2) (by kernel_rfl) rfl rfl _ rfl rfl (.pointer (some ⟨n7, 0, none⟩)) rfl hS7 ?_
    simp only [Act.put, List.setIfInBounds_toArray, List.set_cons_zero, List.set_cons_succ]
    refine wpAnyH_done (by kernel_rfl) ?_ _
    refine NoPanic.normal ?_
    have HF : Hid (TrIn w7 (fun x => P x ∨ w.heap.size ≤ x) (.app (.app v x) (.app y x)) n7 ∧ Below w.heap.size w w7) := ⟨TrIn.mono (fun y hy _ => by rcases hy with (hy | hy) | hy; exact .inl hy; exact .inr hy; exact .inr (by omega)) hT7, HBW.out.trans (((hw5.trans (hw6.mono (by omega))).trans (hw7.mono (by omega))).mono HBW.out.size)⟩
    clear hS hS5 hS6 hS7 hT5 hT5' hT6 hT6' hT7 hw5 hw6 hw7 hbw
    go_wp2
    go_ret
    exact ⟨⟨n7, rfl, HF.out.1⟩, HF.out.2⟩
theorem call_contracted : ∀ args w, (callFunc 62 args).run Try.prog w = .ok (.enter 62 args) w := enters_of Try.func62 (by kernel_rfl) rfl
end Go.Proofs.Ytnnhedncdpfiaaa.CB

/-
  What firstRedex of the program answers.
-/
namespace Go.Proofs.Ytnnhedncdpfiaaa.CB
open Go.RowKit Go.Shelf BL
set_option linter.unusedVariables false
attribute [local go_sem] Oper.semAt_some

theorem results_cc {fn : Func} {p q : Tmp} (h : fn.results = #[.cell p 3, .cell q 4]) (tmps : Array Value) (w : World) (b c : Nat) (u v : Value) (hp : tmps[p]?.getD undef = .pointer (some ⟨b, 0, none⟩)) (hq : tmps[q]?.getD undef = .pointer (some ⟨c, 0, none⟩)) (hc : w.cell? ⟨b, 0, none⟩ = some u) (hd : w.cell? ⟨c, 0, none⟩ = some v) :
    (results fn tmps).run Try.prog w = .ok (.tuple #[u, v]) w := by
  have hu := Try.underlying4
  have hu3 := Try.underlying3
  simp [results, h, go_sem, hp, hq, hc, hd]
def FrI (w : World) (pre : List (Spot × Nat)) (V : Nat → Prop) (W : World) : Prop :=
  (∀ z, V z ↔ (z = w.heap.size ∨ z = w.heap.size + 1)) ∧ RowAt W w.heap.size 3 #[.int .i64 0] ∧ RowAt W (w.heap.size + 1) 4 #[.bool false] ∧ Below w.heap.size w W ∧ ∀ y ∈ pre, y.1.t.isR = false
theorem FrI.step {w : World} {pre : List (Spot × Nat)} {V : Nat → Prop} {A B : World} {row : Option Nat} (h : FrI w pre V A) (hg : A.grownBy B row) (hr : ∀ r, row = some r → ¬ V r ∧ w.heap.size ≤ r) : FrI w pre V B :=
  ⟨h.1, h.2.1.grown hg (fun e => (hr _ e.symm).1 ((h.1 _).2 (.inl rfl))), h.2.2.1.grown hg (fun e => (hr _ e.symm).1 ((h.1 _).2 (.inr rfl))), h.2.2.2.1.grown hg h.2.2.2.1.size (fun k e => (hr k e).2), h.2.2.2.2⟩
def cntV (v : Value) : Nat := match v with | .int _ y => y.toNat | _ => 0
/-- How a round of firstRedex begins. -/
def frAct (w : World) (b sb : Nat) (x : Spot × Nat) : Act :=
  { tmps := #[.pointer (some ⟨b, 0, none⟩), undef, .pointer (some ⟨w.heap.size, 0, none⟩), .pointer (some ⟨w.heap.size + 1, 0, none⟩), .pointer (some ⟨sb, 0, none⟩), .pointer (some ⟨x.2, 0, none⟩), undef, .pointer (some ⟨b, 0, none⟩), .func (.func 89) #[] #[.pointer (some ⟨w.heap.size + 2, 0, none⟩)],
      .agg #[.int .i64 (x.1.at_ : Int), .int .i64 x.1.up, .int .i64 (x.1.lam : Int)], .pointer (some ⟨x.2, 0, none⟩), undef, undef, undef, undef, undef, undef, undef, undef, undef, undef, undef, undef, undef, undef, undef, undef, undef, undef, undef, undef, undef, undef, undef, undef, undef, undef, undef, undef, undef, undef, undef, undef, undef], defers := [] }
set_option maxRecDepth 100000 in
set_option maxHeartbeats 8000000 in
theorem firstRedex_any (t : Lm) (b : Nat) (P : Nat → Prop) (w : World) (hT : TrIn w P t b) (hs : t.sz ≤ 1000000) :
    Calls Try.prog 60 #[.pointer (some ⟨b, 0, none⟩)] w fun e w' => (∃ k : Nat, e = .returned (.tuple #[.int .i64 (k : Int), .bool t.frst.isSome]) ∧ (t.frst.isSome = true → t.frst = some k)) ∧ Below w.heap.size w w' := by
  refine (callsIn_wide (n := 4)).1 ?_
  have HT := hideT' hT
  have hbl := hT.lt
  obtain ⟨r, hr⟩ : ∃ r, r = t.frst := ⟨_, rfl⟩
  rw [← hr]
  have HR := hideT' hr
  clear hT hr
  obtain ⟨w2, hw2⟩ : ∃ w2, w2 = (w.alloc (.cells #[.int .i64 0] 3)).alloc (.cells #[.bool false] 4) := ⟨_, rfl⟩
  have hB2 : Below w.heap.size w w2 := by rw [hw2]; exact ((Below.refl _ _).alloc (Nat.le_refl _) _).alloc (by simp) _
  have hs2 : w2.heap.size = w.heap.size + 2 := by rw [hw2]; simp
  have hRx : RowAt w2 w.heap.size 3 #[.int .i64 0] := by rw [hw2]; exact RowAt.old (RowAt.new _ _ _) _
  have hRr : RowAt w2 (w.heap.size + 1) 4 #[.bool false] := by
    rw [hw2]
    have := RowAt.new (w.alloc (.cells #[.int .i64 0] 3)) 4 #[.bool false]
    rwa [World.size_alloc] at this
  have HW2 := hideT' (And.intro hB2 (And.intro hRx (And.intro hRr hs2)))
  clear hB2 hRx hRr hs2
  refine callsIn_of_wp_marks Try.func60 rfl trivial ?_ rfl
  simp only [Try.ntmps60, List.size_toArray, List.length_cons, List.length_nil, Nat.reduceAdd, Nat.reduceSub, Array.replicate_succ, Array.replicate_zero, List.push_toArray, List.append_toArray, List.nil_append, List.cons_append]
  refine wpIn_seq_k fun K1 hK1 => ?_
  have HK1 := hideT' hK1
  clear hK1
  gi_wp2
  refine HK1.out _ _ ((wpIn_wide (n := 4)).2 (wp_scope_straight ((wpIn_wide (n := 4)).1 ?_)))
  refine wpIn_seq_k fun K2 hK2 => wpIn_label ?_
  refine hK2 _ _ ?_
  clear HK1 hK2
  gi_wp2
  refine ⟨trivial, ?_⟩
  gi_at_call 76
  rw [← hw2]
  refine (callsIn_wide.2 (walk_any b _)).mono ?_
  rintro e w3 ⟨rfl, hw3⟩
  have hB23 : Below w2.heap.size w2 w3 := by rw [hw3]; exact (Below.refl _ _).alloc (Nat.le_refl _) _
  have hB3 : Below w.heap.size w w3 := HW2.out.1.trans (hB23.mono HW2.out.1.size)
  have hI0 : FrI w [] (fun z => z = w.heap.size ∨ z = w.heap.size + 1) w3 := ⟨fun z => Iff.rfl, HW2.out.2.1.below hB23 HW2.out.2.1.lt, HW2.out.2.2.1.below hB23 HW2.out.2.2.1.lt, hB3, fun y hy => by simp at hy⟩
  have hcx : w3.cell? ⟨w2.heap.size, 0, none⟩ = some (.pointer (some ⟨b, 0, none⟩)) := by
    rw [hw3, cell_of_row _ _ _ _ _ _ (RowAt.new w2 68 #[.pointer (some ⟨b, 0, none⟩)])]; rfl
  have hs3 : w3.heap.size = w2.heap.size + 1 := by rw [hw3]; simp
  rw [HW2.out.2.2.2] at hcx hs3 ⊢
  have HI0 := hideT' hI0
  have HB3 := hideT' hB3
  have HCX := hideT' hcx
  have HS3 := hideT' hs3
  clear hw3 hI0 hB3 hcx hB23 hw2 hs3
  gi_wp2
  refine range_ret (gf := 89) (lb := #[.pointer (some ⟨w.heap.size + 2, 0, none⟩)]) (by rfl) (enters_of Try.func89 (by kernel_rfl) rfl) encS (fun x => rfl) _ _ _ (walk_seq (w.heap.size + 2) t b hs)
    (fun pre x V V' W hVV h => ⟨h.1, TrIn.mono (fun z hz _ hv => hz (hVV z hv)) h.2⟩)
    (FrI w) (fun s V A h z hz => by rcases (h.1 z).1 hz with e | e; rw [e]; exact h.2.1.lt; rw [e]; exact h.2.2.1.lt) (fun s V A B row h hg hr => h.step hg (fun r e => ⟨(hr r e).1, by have := (hr r e).2; have := HS3.out; omega⟩)) (fun z => z = w.heap.size ∨ z = w.heap.size + 1) HI0.out ?need
    (fun pre x V c W => ∃ sb, c = frAct w b sb x ∧ (∃ post, t.walk 0 (-1) 0 = pre.map Prod.fst ++ x.1 :: post) ∧ FrI w pre V W ∧ RowAt W sb 106 #[.int .i64 (x.1.at_ : Int), .int .i64 x.1.up, .int .i64 (x.1.lam : Int)] ∧ ¬ V sb ∧ TrIn W (fun z => ¬ V z) x.1.t x.2) ?ax
    (fun W => ∃ k : Nat, RowAt W w.heap.size 3 #[.int .i64 (k : Int)] ∧ RowAt W (w.heap.size + 1) 4 #[.bool true] ∧ Below w.heap.size w W ∧ t.frst = some k) ?rf ?assign ?body ?leave ?done
  case need =>
    intro B V hg hV
    have hs3 := HS3.out
    refine ⟨TrIn.keep (w := w) (P := P) (by have := hg.size; omega) (fun x _ hx => ?_) (fun x _ hx hv => ?_) HT.out, ?_⟩
    · rw [hg.block x (by omega) (by simp)]; exact HB3.out.block x hx
    · rcases hV x hv with h | h <;> omega
    · rw [World.cell?_of_block (w := w3) (a := ⟨w.heap.size + 2, 0, none⟩) (hg.block _ (by simp; omega) (by simp))]; exact HCX.out
  case ax =>
    rintro s x V c A B row ⟨sb, h1, h2, h3, h4, h5, h6⟩ hg hr
    exact ⟨sb, h1, h2, h3.step hg (fun r e => ⟨(hr r e).1.1, by have := (hr r e).1.2; have := HS3.out; omega⟩), TrIn.turn.row_same h4 hg (fun r e => (hr r e).2), h5, TrIn.turn hg (fun r e => (hr r e).2) h6⟩
  case rf =>
    rintro A B row ⟨k, h1, h2, h3, h4⟩ hg hr
    exact ⟨k, TrIn.turn.row_same h1 hg (fun r e => (hr r e).2), TrIn.turn.row_same h2 hg (fun r e => (hr r e).2), h3.grown hg h3.size (fun k e => by have := (hr k e).1; have := HS3.out; omega), h4⟩
  case assign =>
    intro l pre x V W K hNx hI hK
    have HI := hideT' hI
    have HK := hideT' hK
    have HNX := hideT' hNx
    unfold encS
    clear hI hK hNx
    gi_wp2
    have hal : Below W.heap.size W (W.alloc (.cells #[.int .i64 (x.1.at_ : Int), .int .i64 x.1.up, .int .i64 (x.1.lam : Int)] 106)) := (Below.refl _ _).alloc (Nat.le_refl _) _
    have hlt : ∀ z, V z → z < W.heap.size := fun z hz => by rcases (HI.out.1 z).1 hz with e | e; rw [e]; exact HI.out.2.1.lt; rw [e]; exact HI.out.2.2.1.lt
    exact HK.out _ _ V ⟨W.heap.size, rfl, HNX.out.1, HI.out.step (row := none) ⟨hal.os, hal.tape, hal.output, hal.size, fun k hk _ => hal.block k hk⟩ (fun r e => by cases e), RowAt.new _ _ _, fun h => by have := hlt _ h; omega, TrIn.below hal HNX.out.2⟩ (MoreB.refl _ _) (KeepsB.below hal)
  case body =>
    rintro l pre x V c W ⟨sb, rfl, ⟨post, hpo⟩, hI, hRs, hVs, hTx⟩
    unfold frAct
    have hws := Lm.walk_sub t 0 (-1) 0 x.1 (by rw [hpo]; simp)
    have hsz : x.1.t.spn < 1000000 := by have := x.1.t.spn_sz; omega
    obtain ⟨S, hS⟩ : ∃ S, S = x.1.t.spn := ⟨_, rfl⟩
    obtain ⟨L, hL⟩ : ∃ L, L = x.1.t.hl := ⟨_, rfl⟩
    have HIFF : Hid (x.1.t.isR = true ↔ 0 < S ∧ S = L.ar) := by unfold Hid; rw [hS, hL]; exact Lm.isR_iff _
    rw [← hS] at hsz
    have hcs : W.cell? ⟨sb, 0, none⟩ = some (.int .i64 (x.1.at_ : Int)) := by rw [cell_of_row _ _ _ _ _ _ hRs]; rfl
    have hsl := hRs.lt
    have HI := hideT' hI
    have HPO := hideT' hpo
    have HT0 : Hid (TrIn W (fun z => ¬ V z) x.1.t x.2 ∧ 0 + x.1.t.spn = S ∧ x.1.t.hl = L) := ⟨hTx, by omega, hL.symm⟩
    have HCONT : Hid (x.1.t.isR = false → FrI w (pre ++ [x]) V W) := fun h => ⟨hI.1, hI.2.1, hI.2.2.1, hI.2.2.2.1, fun y hy => by
      rcases List.mem_append.1 hy with hy | hy
      · exact hI.2.2.2.2 y hy
      · rw [List.mem_singleton] at hy; subst hy; exact h⟩
    clear hTx hI hpo hRs hVs hws hS hL
    gi_wp2
    gi_loopw [5, 6] (fun h bh wr => ∃ (u : Lm) (bu k : Nat), h = .pointer (some ⟨bu, 0, none⟩) ∧ bh = .int .i64 (k : Int) ∧ Hid (TrIn W (fun z => ¬ V z) u bu ∧ k + u.spn = S ∧ u.hl = L) ∧ W = wr) (fun h bh wr => S + 1 - cntV bh)
    case atStart => exact ⟨x.1.t, x.2, 0, rfl, rfl, HT0, rfl⟩
    case round =>
      obtain ⟨u, bu, k, rfl, rfl, HU, rfl⟩ := hrel
      have hk : k < 1000000 := by have := HU.out.2.1; omega
      cases u with
      | app f y =>
        obtain ⟨hT, hsk, hhl⟩ := HU.out
        obtain ⟨_, uu, g, cc, b1, b2, hRb, hg, g0, g1, hT1, hT2⟩ := hT
        have k0 : W.cell? ⟨bu, 0, none⟩ = some (.int .i64 2) := by rw [cell_of_row _ _ _ _ _ _ hRb]; rfl
        have k3 : W.cell? ⟨bu, 3, none⟩ = some (.slice (some ⟨g, 0, none⟩) 2 cc) := by rw [cell_of_row _ _ _ _ _ _ hRb]; rfl
        have hbu := hRb.lt
        have hgl := hg.1
        simp only [Lm.spn] at hsk
        have HN : Hid (TrIn W (fun z => ¬ V z) f b1 ∧ (k + 1) + f.spn = S ∧ f.hl = L) := ⟨hT1, by omega, hhl⟩
        have hkS : k < S := by omega
        clear hRb hg hT1 hT2 hsk hhl
        gi_wp2
        go_roundw
        case rel => exact ⟨f, b1, k + 1, rfl, by go_num, HN, trivial⟩
        case measure => simp [cntV]; omega
      | var c =>
        obtain ⟨⟨_, uu, o, cc, hRb⟩, hsk, hhl⟩ := HU.out
        have hbu := hRb.lt
        have HR2 : Hid (x.1.t.isR = true ↔ 0 < k ∧ k = c.ar) := by
          unfold Hid
          rw [HIFF.out, ← hsk, ← hhl]
          exact Iff.rfl
        have k0 : W.cell? ⟨bu, 0, none⟩ = some (.int .i64 c.kd) := by rw [cell_of_row _ _ _ _ _ _ hRb]; rfl
        clear hRb hsk hhl HU
        cases c with
        | v n =>
          have HF : Hid (x.1.t.isR = false) := by unfold Hid; rw [Bool.eq_false_iff]; intro h; have := HR2.out.1 h; simp [Leaf.ar] at this; omega
          have k0 : W.cell? ⟨bu, 0, none⟩ = some (.int .i64 1) := k0
          gi_wp2
          exact ⟨V, HCONT.out HF.out, MoreB.refl _ _, KeepsB.refl _ _⟩
        | s =>
          have k0 : W.cell? ⟨bu, 0, none⟩ = some (.int .i64 3) := k0
          by_cases hka : k = 3
          · have HF : Hid (x.1.t.isR = true) := HR2.out.2 ⟨by omega, hka⟩
            have HOK : Hid (t.frst = some x.1.at_) := frst_one_of HPO.out HI.out.2.2.2.2 HF.out
            subst hka
            have hR0 := HI.out.2.1
            have hR1 := HI.out.2.2.1
            have hc0 : W.cell? ⟨w.heap.size, 0, none⟩ = some (.int .i64 0) := by rw [cell_of_row _ _ _ _ _ _ hR0]; rfl
            have hf0 : W.frozen? ⟨w.heap.size, 0, none⟩ = false := frozen_of_row W w.heap.size _ _ _ hR0
            have hst0 : RowAt (W.setCell ⟨w.heap.size, 0, none⟩ (.int .i64 (x.1.at_ : Int))) w.heap.size 3 #[.int .i64 (x.1.at_ : Int)] := heap_setCell_same W w.heap.size 0 _ _ _ hR0
            have hR1' : RowAt (W.setCell ⟨w.heap.size, 0, none⟩ (.int .i64 (x.1.at_ : Int))) (w.heap.size + 1) 4 #[.bool false] := by unfold RowAt; rw [heap_setCell_other W ⟨w.heap.size, 0, none⟩ (w.heap.size + 1) _ (by simp)]; exact hR1
            have hc1 : (W.setCell ⟨w.heap.size, 0, none⟩ (.int .i64 (x.1.at_ : Int))).cell? ⟨w.heap.size + 1, 0, none⟩ = some (.bool false) := by rw [cell_of_row _ _ _ _ _ _ hR1']; rfl
            have hf1 : (W.setCell ⟨w.heap.size, 0, none⟩ (.int .i64 (x.1.at_ : Int))).frozen? ⟨w.heap.size + 1, 0, none⟩ = false := frozen_of_row _ (w.heap.size + 1) _ _ _ hR1'
            have hl0 := hR0.lt
            have hl1 := hR1.lt
            have HST := hideT' (And.intro hst0 hR1')
            clear hR0 hR1 hst0 hR1'
            gi_wp2
            have h2 : RowAt ((W.setCell ⟨w.heap.size, 0, none⟩ (.int .i64 (x.1.at_ : Int))).setCell ⟨w.heap.size + 1, 0, none⟩ (.bool true)) (w.heap.size + 1) 4 #[.bool true] := heap_setCell_same _ (w.heap.size + 1) 0 _ _ (.bool true) HST.out.2
            have h1 : RowAt ((W.setCell ⟨w.heap.size, 0, none⟩ (.int .i64 (x.1.at_ : Int))).setCell ⟨w.heap.size + 1, 0, none⟩ (.bool true)) w.heap.size 3 #[.int .i64 (x.1.at_ : Int)] := by unfold RowAt; rw [heap_setCell_other _ ⟨w.heap.size + 1, 0, none⟩ w.heap.size _ (by simp)]; exact HST.out.1
            refine ⟨⟨x.1.at_, h1, h2, (HI.out.2.2.2.1.setCell (by simp) _).setCell (by simp) _, HOK.out⟩, ⟨by simp, fun z hz hv => ?_⟩⟩
            have hz1 : z ≠ w.heap.size + 1 := fun e => hv ((HI.out.1 z).2 (.inr e))
            have hz0 : z ≠ w.heap.size := fun e => hv ((HI.out.1 z).2 (.inl e))
            rw [heap_setCell_other _ ⟨w.heap.size + 1, 0, none⟩ z _ (fun e => hz1 e), heap_setCell_other _ ⟨w.heap.size, 0, none⟩ z _ (fun e => hz0 e)]
          · have HF : Hid (x.1.t.isR = false) := by unfold Hid; rw [Bool.eq_false_iff]; intro h; exact hka (HR2.out.1 h).2
            have hne : ¬ (k : Int) - 1 - 1 - 1 = 0 := by omega
            have hnb : ((k : Int) - 1 - 1 - 1 == 0) = false := by simp only [beq_eq_false_iff_ne]; exact hne
            gi_wp2
            exact ⟨V, HCONT.out HF.out, MoreB.refl _ _, KeepsB.refl _ _⟩
        | k =>
          have k0 : W.cell? ⟨bu, 0, none⟩ = some (.int .i64 4) := k0
          by_cases hka : k = 2
          · have HF : Hid (x.1.t.isR = true) := HR2.out.2 ⟨by omega, hka⟩
            have HOK : Hid (t.frst = some x.1.at_) := frst_one_of HPO.out HI.out.2.2.2.2 HF.out
            subst hka
            have hR0 := HI.out.2.1
            have hR1 := HI.out.2.2.1
            have hc0 : W.cell? ⟨w.heap.size, 0, none⟩ = some (.int .i64 0) := by rw [cell_of_row _ _ _ _ _ _ hR0]; rfl
            have hf0 : W.frozen? ⟨w.heap.size, 0, none⟩ = false := frozen_of_row W w.heap.size _ _ _ hR0
            have hst0 : RowAt (W.setCell ⟨w.heap.size, 0, none⟩ (.int .i64 (x.1.at_ : Int))) w.heap.size 3 #[.int .i64 (x.1.at_ : Int)] := heap_setCell_same W w.heap.size 0 _ _ _ hR0
            have hR1' : RowAt (W.setCell ⟨w.heap.size, 0, none⟩ (.int .i64 (x.1.at_ : Int))) (w.heap.size + 1) 4 #[.bool false] := by unfold RowAt; rw [heap_setCell_other W ⟨w.heap.size, 0, none⟩ (w.heap.size + 1) _ (by simp)]; exact hR1
            have hc1 : (W.setCell ⟨w.heap.size, 0, none⟩ (.int .i64 (x.1.at_ : Int))).cell? ⟨w.heap.size + 1, 0, none⟩ = some (.bool false) := by rw [cell_of_row _ _ _ _ _ _ hR1']; rfl
            have hf1 : (W.setCell ⟨w.heap.size, 0, none⟩ (.int .i64 (x.1.at_ : Int))).frozen? ⟨w.heap.size + 1, 0, none⟩ = false := frozen_of_row _ (w.heap.size + 1) _ _ _ hR1'
            have hl0 := hR0.lt
            have hl1 := hR1.lt
            have HST := hideT' (And.intro hst0 hR1')
            clear hR0 hR1 hst0 hR1'
            gi_wp2
            have h2 : RowAt ((W.setCell ⟨w.heap.size, 0, none⟩ (.int .i64 (x.1.at_ : Int))).setCell ⟨w.heap.size + 1, 0, none⟩ (.bool true)) (w.heap.size + 1) 4 #[.bool true] := heap_setCell_same _ (w.heap.size + 1) 0 _ _ (.bool true) HST.out.2
            have h1 : RowAt ((W.setCell ⟨w.heap.size, 0, none⟩ (.int .i64 (x.1.at_ : Int))).setCell ⟨w.heap.size + 1, 0, none⟩ (.bool true)) w.heap.size 3 #[.int .i64 (x.1.at_ : Int)] := by unfold RowAt; rw [heap_setCell_other _ ⟨w.heap.size + 1, 0, none⟩ w.heap.size _ (by simp)]; exact HST.out.1
            refine ⟨⟨x.1.at_, h1, h2, (HI.out.2.2.2.1.setCell (by simp) _).setCell (by simp) _, HOK.out⟩, ⟨by simp, fun z hz hv => ?_⟩⟩
            have hz1 : z ≠ w.heap.size + 1 := fun e => hv ((HI.out.1 z).2 (.inr e))
            have hz0 : z ≠ w.heap.size := fun e => hv ((HI.out.1 z).2 (.inl e))
            rw [heap_setCell_other _ ⟨w.heap.size + 1, 0, none⟩ z _ (fun e => hz1 e), heap_setCell_other _ ⟨w.heap.size, 0, none⟩ z _ (fun e => hz0 e)]
          · have HF : Hid (x.1.t.isR = false) := by unfold Hid; rw [Bool.eq_false_iff]; intro h; exact hka (HR2.out.1 h).2
            have hne : ¬ (k : Int) - 1 - 1 = 0 := by omega
            have hnb : ((k : Int) - 1 - 1 == 0) = false := by simp only [beq_eq_false_iff_ne]; exact hne
            gi_wp2
            exact ⟨V, HCONT.out HF.out, MoreB.refl _ _, KeepsB.refl _ _⟩
        | i =>
          have k0 : W.cell? ⟨bu, 0, none⟩ = some (.int .i64 5) := k0
          by_cases hka : k = 1
          · have HF : Hid (x.1.t.isR = true) := HR2.out.2 ⟨by omega, hka⟩
            have HOK : Hid (t.frst = some x.1.at_) := frst_one_of HPO.out HI.out.2.2.2.2 HF.out
            subst hka
            have hR0 := HI.out.2.1
            have hR1 := HI.out.2.2.1
            have hc0 : W.cell? ⟨w.heap.size, 0, none⟩ = some (.int .i64 0) := by rw [cell_of_row _ _ _ _ _ _ hR0]; rfl
            have hf0 : W.frozen? ⟨w.heap.size, 0, none⟩ = false := frozen_of_row W w.heap.size _ _ _ hR0
            have hst0 : RowAt (W.setCell ⟨w.heap.size, 0, none⟩ (.int .i64 (x.1.at_ : Int))) w.heap.size 3 #[.int .i64 (x.1.at_ : Int)] := heap_setCell_same W w.heap.size 0 _ _ _ hR0
            have hR1' : RowAt (W.setCell ⟨w.heap.size, 0, none⟩ (.int .i64 (x.1.at_ : Int))) (w.heap.size + 1) 4 #[.bool false] := by unfold RowAt; rw [heap_setCell_other W ⟨w.heap.size, 0, none⟩ (w.heap.size + 1) _ (by simp)]; exact hR1
            have hc1 : (W.setCell ⟨w.heap.size, 0, none⟩ (.int .i64 (x.1.at_ : Int))).cell? ⟨w.heap.size + 1, 0, none⟩ = some (.bool false) := by rw [cell_of_row _ _ _ _ _ _ hR1']; rfl
            have hf1 : (W.setCell ⟨w.heap.size, 0, none⟩ (.int .i64 (x.1.at_ : Int))).frozen? ⟨w.heap.size + 1, 0, none⟩ = false := frozen_of_row _ (w.heap.size + 1) _ _ _ hR1'
            have hl0 := hR0.lt
            have hl1 := hR1.lt
            have HST := hideT' (And.intro hst0 hR1')
            clear hR0 hR1 hst0 hR1'
            gi_wp2
            have h2 : RowAt ((W.setCell ⟨w.heap.size, 0, none⟩ (.int .i64 (x.1.at_ : Int))).setCell ⟨w.heap.size + 1, 0, none⟩ (.bool true)) (w.heap.size + 1) 4 #[.bool true] := heap_setCell_same _ (w.heap.size + 1) 0 _ _ (.bool true) HST.out.2
            have h1 : RowAt ((W.setCell ⟨w.heap.size, 0, none⟩ (.int .i64 (x.1.at_ : Int))).setCell ⟨w.heap.size + 1, 0, none⟩ (.bool true)) w.heap.size 3 #[.int .i64 (x.1.at_ : Int)] := by unfold RowAt; rw [heap_setCell_other _ ⟨w.heap.size + 1, 0, none⟩ w.heap.size _ (by simp)]; exact HST.out.1
            refine ⟨⟨x.1.at_, h1, h2, (HI.out.2.2.2.1.setCell (by simp) _).setCell (by simp) _, HOK.out⟩, ⟨by simp, fun z hz hv => ?_⟩⟩
            have hz1 : z ≠ w.heap.size + 1 := fun e => hv ((HI.out.1 z).2 (.inr e))
            have hz0 : z ≠ w.heap.size := fun e => hv ((HI.out.1 z).2 (.inl e))
            rw [heap_setCell_other _ ⟨w.heap.size + 1, 0, none⟩ z _ (fun e => hz1 e), heap_setCell_other _ ⟨w.heap.size, 0, none⟩ z _ (fun e => hz0 e)]
          · have HF : Hid (x.1.t.isR = false) := by unfold Hid; rw [Bool.eq_false_iff]; intro h; exact hka (HR2.out.1 h).2
            have hne : ¬ (k : Int) - 1 = 0 := by omega
            have hnb : ((k : Int) - 1 == 0) = false := by simp only [beq_eq_false_iff_ne]; exact hne
            gi_wp2
            exact ⟨V, HCONT.out HF.out, MoreB.refl _ _, KeepsB.refl _ _⟩
  case leave =>
    rintro D W hD ⟨k, hR0, hR, hB, hno⟩ hK
    have HF : Hid (r = some k) := by unfold Hid; rw [HR.out, hno]
    have HRB := hideT' (And.intro hR0 (And.intro hR hB))
    have HK := hideT' hK
    clear hR0 hR hB hno hK
    gi_wp2
    have hR0' : RowAt (W.putObj D (.deferred none)) w.heap.size 3 #[.int .i64 (k : Int)] := row_put HRB.out.1 HK.out rfl
    have hR' : RowAt (W.putObj D (.deferred none)) (w.heap.size + 1) 4 #[.bool true] := row_put HRB.out.2.1 HK.out rfl
    exact leave_marks (v := .tuple #[.int .i64 (k : Int), .bool true]) HK.out (results_cc Try.results60 _ _ w.heap.size (w.heap.size + 1) (.int .i64 (k : Int)) (.bool true) rfl rfl (by rw [cell_of_row _ _ _ _ _ _ hR0']; rfl) (by rw [cell_of_row _ _ _ _ _ _ hR']; rfl)) ⟨⟨k, by rw [HF.out]; rfl, fun _ => HF.out⟩, below_put HRB.out.2.2 (by have := HS3.out; omega) HRB.out.2.2.size⟩
  case done =>
    rintro D ys V W hD hS ⟨hV, hRx, hR, hB, hall⟩ hVD hK
    have HF : Hid (r = none) := by unfold Hid; rw [HR.out]; exact frst_none_of hS hall
    have hc0 : W.cell? ⟨w.heap.size, 0, none⟩ = some (.int .i64 0) := by rw [cell_of_row _ _ _ _ _ _ hRx]; rfl
    have hf0 : W.frozen? ⟨w.heap.size, 0, none⟩ = false := frozen_of_row W w.heap.size _ _ _ hRx
    have hst0 : RowAt (W.setCell ⟨w.heap.size, 0, none⟩ (.int .i64 0)) w.heap.size 3 #[.int .i64 0] := heap_setCell_same W w.heap.size 0 _ _ (.int .i64 0) hRx
    have hR1 : RowAt (W.setCell ⟨w.heap.size, 0, none⟩ (.int .i64 0)) (w.heap.size + 1) 4 #[.bool false] := by unfold RowAt; rw [heap_setCell_other W ⟨w.heap.size, 0, none⟩ (w.heap.size + 1) _ (by simp)]; exact hR
    have hcr : (W.setCell ⟨w.heap.size, 0, none⟩ (.int .i64 0)).cell? ⟨w.heap.size + 1, 0, none⟩ = some (.bool false) := by rw [cell_of_row _ _ _ _ _ _ hR1]; rfl
    have hfrz : (W.setCell ⟨w.heap.size, 0, none⟩ (.int .i64 0)).frozen? ⟨w.heap.size + 1, 0, none⟩ = false := frozen_of_row _ (w.heap.size + 1) _ _ _ hR1
    obtain ⟨W2, hW2⟩ : ∃ W2, W2 = (W.setCell ⟨w.heap.size, 0, none⟩ (.int .i64 0)).setCell ⟨w.heap.size + 1, 0, none⟩ (.bool false) := ⟨_, rfl⟩
    have hst : RowAt W2 (w.heap.size + 1) 4 #[.bool false] := by rw [hW2]; exact heap_setCell_same _ (w.heap.size + 1) 0 _ _ (.bool false) hR1
    have hst0' : RowAt W2 w.heap.size 3 #[.int .i64 0] := by rw [hW2]; unfold RowAt; rw [heap_setCell_other _ ⟨w.heap.size + 1, 0, none⟩ w.heap.size _ (by simp)]; exact hst0
    have hDn : D ≠ w.heap.size + 1 := fun e => by rw [e] at hK; rw [hR] at hK; cases hK
    have hDn0 : D ≠ w.heap.size := fun e => by rw [e] at hK; rw [hRx] at hK; cases hK
    have hK2 : W2.heap[D]? = some (.deferred (some [])) := by rw [hW2, heap_setCell_other _ ⟨w.heap.size + 1, 0, none⟩ D _ (fun e => hDn e), heap_setCell_other W ⟨w.heap.size, 0, none⟩ D _ (fun e => hDn0 e)]; exact hK
    have HRB := hideT' (And.intro hst0' (And.intro hst (show Below w.heap.size w W2 by rw [hW2]; exact (hB.setCell (p := ⟨w.heap.size, 0, none⟩) (by simp) _).setCell (p := ⟨w.heap.size + 1, 0, none⟩) (by simp) (.bool false))))
    have HK := hideT' hK2
    clear hR hRx hB hall hK hst hst0 hst0' hK2 hV hR1
    gi_wp2
    rw [← hW2]
    have hR0' : RowAt (W2.putObj D (.deferred none)) w.heap.size 3 #[.int .i64 0] := row_put HRB.out.1 HK.out rfl
    have hR' : RowAt (W2.putObj D (.deferred none)) (w.heap.size + 1) 4 #[.bool false] := row_put HRB.out.2.1 HK.out rfl
    exact leave_marks (v := .tuple #[.int .i64 0, .bool false]) HK.out (results_cc Try.results60 _ _ w.heap.size (w.heap.size + 1) (.int .i64 0) (.bool false) rfl rfl (by rw [cell_of_row _ _ _ _ _ _ hR0']; rfl) (by rw [cell_of_row _ _ _ _ _ _ hR']; rfl)) ⟨⟨0, by rw [HF.out]; rfl, fun h => by rw [HF.out] at h; cases h⟩, below_put HRB.out.2.2 (by have := HS3.out; omega) HRB.out.2.2.size⟩
end Go.Proofs.Ytnnhedncdpfiaaa.CB

/-
  What ldHead of the model answers.
-/
namespace Go.Proofs.Ytnnhedncdpfiaaa.CB
open Go.RowKit BL
set_option linter.unusedVariables false

def HdOut (w : World) (r : Option Lm) (P : Nat → Prop) (e : Ending) (w' : World) : Prop := match r with
  | none => ∃ k n o m c, e = .returned (.tuple #[.agg (lcC k n (.slice o m c)), .bool false])
  | some s => ∃ z', e = .returned (.tuple #[.agg (lcC s.kd s.nm z'), .bool true]) ∧ LcIn w' (fun x => P x ∨ w.heap.size ≤ x) s z'
set_option maxHeartbeats 16000000 in
set_option maxRecDepth 100000 in
theorem ldHead_any (t : Lm) (z : Value) (P : Nat → Prop) (w : World) (hz : LcIn w P t z) :
    Calls Try.prog 82 #[.agg (lcC t.kd t.nm z)] w fun e w' => HdOut w t.hd P e w' ∧ Below w.heap.size w w' := by
  have hz0 := zero_lcT.1
  obtain ⟨r, hr⟩ : ∃ r, r = t.hd := ⟨_, rfl⟩
  rw [← hr]
  cases t with
  | var c =>
    obtain ⟨oz, cz, rfl⟩ := hz
    have HE : Hid (r = none) := hr
    obtain ⟨kd, hkd⟩ : ∃ kd, kd = (Lm.var c).kd := ⟨_, rfl⟩
    obtain ⟨nm, hnm⟩ : ∃ nm, nm = (Lm.var c).nm := ⟨_, rfl⟩
    have h1 : ¬ kd = 2 := by rw [hkd]; exact c.kd2
    have h1b : (kd == 2) = false := by simp [h1]
    have h1c : (kd != 2) = true := by simp [h1]
    rw [← hkd, ← hnm]
    clear hr hkd hnm
    unfold lcC
    have hR : RowAt ((w.alloc (.cells #[.int .i64 kd, .int .i64 nm, .slice oz 0 cz] 75)).alloc (.cells #[.int .i64 kd, .int .i64 nm, .slice oz 0 cz] 75)) (w.heap.size + 1) 75 #[.int .i64 kd, .int .i64 nm, .slice oz 0 cz] := by
      have h0 := RowAt.new (w.alloc (.cells #[.int .i64 kd, .int .i64 nm, .slice oz 0 cz] 75)) 75 #[.int .i64 kd, .int .i64 nm, .slice oz 0 cz]
      rw [World.size_alloc] at h0
      exact h0
    have HR := hideT' hR
    have HB : Hid (Below w.heap.size w ((w.alloc (.cells #[.int .i64 kd, .int .i64 nm, .slice oz 0 cz] 75)).alloc (.cells #[.int .i64 kd, .int .i64 nm, .slice oz 0 cz] 75))) := (((Below.refl w.heap.size w).alloc (Nat.le_refl _) _).alloc (by simp) _)
    clear hR
    go_enter Try.func82, Try.ntmps82
    go_wp2_with fail
    refine bodyPost_ret (v := .tuple #[.agg (lcC kd nm (.slice oz 0 cz)), .bool false]) (res_lc_tmp Try.results82 _ _ (w.heap.size + 1) kd nm (.slice oz 0 cz) (.bool false) rfl rfl HR.out) rfl ⟨?_, HB.out⟩
    rw [HE.out]
    exact ⟨_, _, _, _, _, rfl⟩
  | app f x =>
    have hz' := hz
    obtain ⟨g, cz, zf, zx, rfl, ⟨hgl, hgP⟩, ⟨a0, a1, a2⟩, ⟨e0, e1, e2⟩, hzf, hzx⟩ := hz
    obtain ⟨xo, xc, rfl⟩ := hzx.form
    have HZX := hideT' hzx
    show Calls Try.prog 82 #[.agg #[.int .i64 2, .int .i64 0, .slice (some ⟨g, 0, none⟩) 2 cz]] w _
    clear hz' hzx hgP
    cases f with
    | var c =>
      obtain ⟨fo, fc, rfl⟩ := hzf
      by_cases hci : c = .i
      · subst hci
        have HE : Hid (r = some x) := hr
        clear hr
        have c0 : ((w.alloc (.cells #[.int .i64 2, .int .i64 0, .slice (some ⟨g, 0, none⟩) 2 cz] 75)).alloc (.cells #[.int .i64 0, .int .i64 0, .slice none 0 0] 75)).cell? ⟨g, 0, none⟩ = some (.int .i64 5) := by rw [World.cell?_of_block (w := w) (a := ⟨g, 0, none⟩) ((((Below.refl w.heap.size w).alloc (Nat.le_refl _) _).alloc (by simp) _).block g hgl)]; exact a0
        have c1 : ((w.alloc (.cells #[.int .i64 2, .int .i64 0, .slice (some ⟨g, 0, none⟩) 2 cz] 75)).alloc (.cells #[.int .i64 0, .int .i64 0, .slice none 0 0] 75)).cell? ⟨g, 1, none⟩ = some (.int .i64 0) := by rw [World.cell?_of_block (w := w) (a := ⟨g, 1, none⟩) ((((Below.refl w.heap.size w).alloc (Nat.le_refl _) _).alloc (by simp) _).block g hgl)]; exact a1
        have c2 : ((w.alloc (.cells #[.int .i64 2, .int .i64 0, .slice (some ⟨g, 0, none⟩) 2 cz] 75)).alloc (.cells #[.int .i64 0, .int .i64 0, .slice none 0 0] 75)).cell? ⟨g, 2, none⟩ = some (.slice fo 0 fc) := by rw [World.cell?_of_block (w := w) (a := ⟨g, 2, none⟩) ((((Below.refl w.heap.size w).alloc (Nat.le_refl _) _).alloc (by simp) _).block g hgl)]; exact a2
        have q0 : (((w.alloc (.cells #[.int .i64 2, .int .i64 0, .slice (some ⟨g, 0, none⟩) 2 cz] 75)).alloc (.cells #[.int .i64 0, .int .i64 0, .slice none 0 0] 75)).alloc (.cells #[.int .i64 5, .int .i64 0, .slice fo 0 fc] 75)).cell? ⟨g, 3, none⟩ = some (.int .i64 x.kd) := by rw [World.cell?_of_block (w := w) (a := ⟨g, 3, none⟩) (((((Below.refl w.heap.size w).alloc (Nat.le_refl _) _).alloc (by simp) _).alloc (by simp; omega) _).block g hgl)]; exact e0
        have q1 : (((w.alloc (.cells #[.int .i64 2, .int .i64 0, .slice (some ⟨g, 0, none⟩) 2 cz] 75)).alloc (.cells #[.int .i64 0, .int .i64 0, .slice none 0 0] 75)).alloc (.cells #[.int .i64 5, .int .i64 0, .slice fo 0 fc] 75)).cell? ⟨g, 4, none⟩ = some (.int .i64 x.nm) := by rw [World.cell?_of_block (w := w) (a := ⟨g, 4, none⟩) (((((Below.refl w.heap.size w).alloc (Nat.le_refl _) _).alloc (by simp) _).alloc (by simp; omega) _).block g hgl)]; exact e1
        have q2 : (((w.alloc (.cells #[.int .i64 2, .int .i64 0, .slice (some ⟨g, 0, none⟩) 2 cz] 75)).alloc (.cells #[.int .i64 0, .int .i64 0, .slice none 0 0] 75)).alloc (.cells #[.int .i64 5, .int .i64 0, .slice fo 0 fc] 75)).cell? ⟨g, 5, none⟩ = some (.slice xo x.kids.length xc) := by rw [World.cell?_of_block (w := w) (a := ⟨g, 5, none⟩) (((((Below.refl w.heap.size w).alloc (Nat.le_refl _) _).alloc (by simp) _).alloc (by simp; omega) _).block g hgl)]; exact e2
        clear a0 a1 a2 e0 e1 e2
        have hR : RowAt (((w.alloc (.cells #[.int .i64 2, .int .i64 0, .slice (some ⟨g, 0, none⟩) 2 cz] 75)).alloc (.cells #[.int .i64 x.kd, .int .i64 x.nm, .slice xo x.kids.length xc] 75)).alloc (.cells #[.int .i64 5, .int .i64 0, .slice fo 0 fc] 75)) (w.heap.size + 1) 75 #[.int .i64 x.kd, .int .i64 x.nm, .slice xo x.kids.length xc] := by
          have h0 := RowAt.new (w.alloc (.cells #[.int .i64 2, .int .i64 0, .slice (some ⟨g, 0, none⟩) 2 cz] 75)) 75 #[.int .i64 x.kd, .int .i64 x.nm, .slice xo x.kids.length xc]
          rw [World.size_alloc] at h0
          exact (RowAt.old h0 _)
        have HR := hideT' hR
        have HB : Hid (Below w.heap.size w (((w.alloc (.cells #[.int .i64 2, .int .i64 0, .slice (some ⟨g, 0, none⟩) 2 cz] 75)).alloc (.cells #[.int .i64 x.kd, .int .i64 x.nm, .slice xo x.kids.length xc] 75)).alloc (.cells #[.int .i64 5, .int .i64 0, .slice fo 0 fc] 75))) := ((((Below.refl w.heap.size w).alloc (Nat.le_refl _) _).alloc (by simp) _).alloc (by simp; omega) _)
        clear hR
        go_enter Try.func82, Try.ntmps82
        go_wp2_with fail
        refine bodyPost_ret (v := .tuple #[.agg (lcC x.kd x.nm (.slice xo x.kids.length xc)), .bool true]) (res_lc_tmp Try.results82 _ _ (w.heap.size + 1) x.kd x.nm (.slice xo x.kids.length xc) (.bool true) rfl rfl HR.out) rfl ⟨?_, HB.out⟩
        rw [HE.out]
        exact ⟨_, rfl, LcIn.keep (w := w) HB.out.size (fun y _ hl => HB.out.block y hl) (fun y hy _ => .inl hy) HZX.out⟩
      · have HE : Hid (r = none) := by unfold Hid; rw [hr]; cases c <;> first | rfl | exact absurd rfl hci
        obtain ⟨kf, hkf⟩ : ∃ kf, kf = (Lm.var c).kd := ⟨_, rfl⟩
        obtain ⟨nf, hnf⟩ : ∃ nf, nf = (Lm.var c).nm := ⟨_, rfl⟩
        have h1 : ¬ kf = 2 := by rw [hkf]; exact c.kd2
        have h5 : ¬ kf = 5 := by rw [hkf]; cases c <;> first | exact absurd rfl hci | (simp [Lm.kd, Leaf.kd])
        have h1b : (kf == 2) = false := by simp [h1]
        have h1c : (kf != 2) = true := by simp [h1]
        have h5b : (kf == 5) = false := by simp [h5]
        rw [← hkf] at a0
        rw [← hnf] at a1
        clear hr hci
        have c0 : ((w.alloc (.cells #[.int .i64 2, .int .i64 0, .slice (some ⟨g, 0, none⟩) 2 cz] 75)).alloc (.cells #[.int .i64 0, .int .i64 0, .slice none 0 0] 75)).cell? ⟨g, 0, none⟩ = some (.int .i64 kf) := by rw [World.cell?_of_block (w := w) (a := ⟨g, 0, none⟩) ((((Below.refl w.heap.size w).alloc (Nat.le_refl _) _).alloc (by simp) _).block g hgl)]; exact a0
        have c1 : ((w.alloc (.cells #[.int .i64 2, .int .i64 0, .slice (some ⟨g, 0, none⟩) 2 cz] 75)).alloc (.cells #[.int .i64 0, .int .i64 0, .slice none 0 0] 75)).cell? ⟨g, 1, none⟩ = some (.int .i64 nf) := by rw [World.cell?_of_block (w := w) (a := ⟨g, 1, none⟩) ((((Below.refl w.heap.size w).alloc (Nat.le_refl _) _).alloc (by simp) _).block g hgl)]; exact a1
        have c2 : ((w.alloc (.cells #[.int .i64 2, .int .i64 0, .slice (some ⟨g, 0, none⟩) 2 cz] 75)).alloc (.cells #[.int .i64 0, .int .i64 0, .slice none 0 0] 75)).cell? ⟨g, 2, none⟩ = some (.slice fo 0 fc) := by rw [World.cell?_of_block (w := w) (a := ⟨g, 2, none⟩) ((((Below.refl w.heap.size w).alloc (Nat.le_refl _) _).alloc (by simp) _).block g hgl)]; exact a2
        clear a0 a1 a2 e0 e1 e2 hkf hnf
        have hR : RowAt (((w.alloc (.cells #[.int .i64 2, .int .i64 0, .slice (some ⟨g, 0, none⟩) 2 cz] 75)).alloc (.cells #[.int .i64 2, .int .i64 0, .slice (some ⟨g, 0, none⟩) 2 cz] 75)).alloc (.cells #[.int .i64 kf, .int .i64 nf, .slice fo 0 fc] 75)) (w.heap.size + 1) 75 #[.int .i64 2, .int .i64 0, .slice (some ⟨g, 0, none⟩) 2 cz] := by
          have h0 := RowAt.new (w.alloc (.cells #[.int .i64 2, .int .i64 0, .slice (some ⟨g, 0, none⟩) 2 cz] 75)) 75 #[.int .i64 2, .int .i64 0, .slice (some ⟨g, 0, none⟩) 2 cz]
          rw [World.size_alloc] at h0
          exact (RowAt.old h0 _)
        have HR := hideT' hR
        have HB : Hid (Below w.heap.size w (((w.alloc (.cells #[.int .i64 2, .int .i64 0, .slice (some ⟨g, 0, none⟩) 2 cz] 75)).alloc (.cells #[.int .i64 2, .int .i64 0, .slice (some ⟨g, 0, none⟩) 2 cz] 75)).alloc (.cells #[.int .i64 kf, .int .i64 nf, .slice fo 0 fc] 75))) := ((((Below.refl w.heap.size w).alloc (Nat.le_refl _) _).alloc (by simp) _).alloc (by simp; omega) _)
        clear hR
        go_enter Try.func82, Try.ntmps82
        go_wp2_with fail
        refine bodyPost_ret (v := .tuple #[.agg (lcC 2 0 (.slice (some ⟨g, 0, none⟩) 2 cz)), .bool false]) (res_lc_tmp Try.results82 _ _ (w.heap.size + 1) 2 0 (.slice (some ⟨g, 0, none⟩) 2 cz) (.bool false) rfl rfl HR.out) rfl ⟨?_, HB.out⟩
        rw [HE.out]
        exact ⟨_, _, _, _, _, rfl⟩
    | app h y =>
      obtain ⟨g2, fc, zh, zy, rfl, ⟨hgl2, hgP2⟩, ⟨b0, b1, b2⟩, ⟨d0, d1, d2⟩, hzh, hzy⟩ := hzf
      obtain ⟨yo, yc, rfl⟩ := hzy.form
      have HZY := hideT' hzy
      clear hzy hgP2
      cases h with
      | var c =>
        obtain ⟨ho, hc, rfl⟩ := hzh
        by_cases hci : c = .k
        · subst hci
          have HE : Hid (r = some y) := hr
          clear hr
          have c0 : ((w.alloc (.cells #[.int .i64 2, .int .i64 0, .slice (some ⟨g, 0, none⟩) 2 cz] 75)).alloc (.cells #[.int .i64 0, .int .i64 0, .slice none 0 0] 75)).cell? ⟨g, 0, none⟩ = some (.int .i64 2) := by rw [World.cell?_of_block (w := w) (a := ⟨g, 0, none⟩) ((((Below.refl w.heap.size w).alloc (Nat.le_refl _) _).alloc (by simp) _).block g hgl)]; exact a0
          have c1 : ((w.alloc (.cells #[.int .i64 2, .int .i64 0, .slice (some ⟨g, 0, none⟩) 2 cz] 75)).alloc (.cells #[.int .i64 0, .int .i64 0, .slice none 0 0] 75)).cell? ⟨g, 1, none⟩ = some (.int .i64 0) := by rw [World.cell?_of_block (w := w) (a := ⟨g, 1, none⟩) ((((Below.refl w.heap.size w).alloc (Nat.le_refl _) _).alloc (by simp) _).block g hgl)]; exact a1
          have c2 : ((w.alloc (.cells #[.int .i64 2, .int .i64 0, .slice (some ⟨g, 0, none⟩) 2 cz] 75)).alloc (.cells #[.int .i64 0, .int .i64 0, .slice none 0 0] 75)).cell? ⟨g, 2, none⟩ = some (.slice (some ⟨g2, 0, none⟩) 2 fc) := by rw [World.cell?_of_block (w := w) (a := ⟨g, 2, none⟩) ((((Below.refl w.heap.size w).alloc (Nat.le_refl _) _).alloc (by simp) _).block g hgl)]; exact a2
          have q0 : (((w.alloc (.cells #[.int .i64 2, .int .i64 0, .slice (some ⟨g, 0, none⟩) 2 cz] 75)).alloc (.cells #[.int .i64 0, .int .i64 0, .slice none 0 0] 75)).alloc (.cells #[.int .i64 2, .int .i64 0, .slice (some ⟨g2, 0, none⟩) 2 fc] 75)).cell? ⟨g2, 0, none⟩ = some (.int .i64 4) := by rw [World.cell?_of_block (w := w) (a := ⟨g2, 0, none⟩) (((((Below.refl w.heap.size w).alloc (Nat.le_refl _) _).alloc (by simp) _).alloc (by simp; omega) _).block g2 hgl2)]; exact b0
          have q1 : (((w.alloc (.cells #[.int .i64 2, .int .i64 0, .slice (some ⟨g, 0, none⟩) 2 cz] 75)).alloc (.cells #[.int .i64 0, .int .i64 0, .slice none 0 0] 75)).alloc (.cells #[.int .i64 2, .int .i64 0, .slice (some ⟨g2, 0, none⟩) 2 fc] 75)).cell? ⟨g2, 1, none⟩ = some (.int .i64 0) := by rw [World.cell?_of_block (w := w) (a := ⟨g2, 1, none⟩) (((((Below.refl w.heap.size w).alloc (Nat.le_refl _) _).alloc (by simp) _).alloc (by simp; omega) _).block g2 hgl2)]; exact b1
          have q2 : (((w.alloc (.cells #[.int .i64 2, .int .i64 0, .slice (some ⟨g, 0, none⟩) 2 cz] 75)).alloc (.cells #[.int .i64 0, .int .i64 0, .slice none 0 0] 75)).alloc (.cells #[.int .i64 2, .int .i64 0, .slice (some ⟨g2, 0, none⟩) 2 fc] 75)).cell? ⟨g2, 2, none⟩ = some (.slice ho 0 hc) := by rw [World.cell?_of_block (w := w) (a := ⟨g2, 2, none⟩) (((((Below.refl w.heap.size w).alloc (Nat.le_refl _) _).alloc (by simp) _).alloc (by simp; omega) _).block g2 hgl2)]; exact b2
          have r0 : ((((w.alloc (.cells #[.int .i64 2, .int .i64 0, .slice (some ⟨g, 0, none⟩) 2 cz] 75)).alloc (.cells #[.int .i64 0, .int .i64 0, .slice none 0 0] 75)).alloc (.cells #[.int .i64 2, .int .i64 0, .slice (some ⟨g2, 0, none⟩) 2 fc] 75)).alloc (.cells #[.int .i64 4, .int .i64 0, .slice ho 0 hc] 75)).cell? ⟨g2, 3, none⟩ = some (.int .i64 y.kd) := by rw [World.cell?_of_block (w := w) (a := ⟨g2, 3, none⟩) ((((((Below.refl w.heap.size w).alloc (Nat.le_refl _) _).alloc (by simp) _).alloc (by simp; omega) _).alloc (by simp; omega) _).block g2 hgl2)]; exact d0
          have r1 : ((((w.alloc (.cells #[.int .i64 2, .int .i64 0, .slice (some ⟨g, 0, none⟩) 2 cz] 75)).alloc (.cells #[.int .i64 0, .int .i64 0, .slice none 0 0] 75)).alloc (.cells #[.int .i64 2, .int .i64 0, .slice (some ⟨g2, 0, none⟩) 2 fc] 75)).alloc (.cells #[.int .i64 4, .int .i64 0, .slice ho 0 hc] 75)).cell? ⟨g2, 4, none⟩ = some (.int .i64 y.nm) := by rw [World.cell?_of_block (w := w) (a := ⟨g2, 4, none⟩) ((((((Below.refl w.heap.size w).alloc (Nat.le_refl _) _).alloc (by simp) _).alloc (by simp; omega) _).alloc (by simp; omega) _).block g2 hgl2)]; exact d1
          have r2 : ((((w.alloc (.cells #[.int .i64 2, .int .i64 0, .slice (some ⟨g, 0, none⟩) 2 cz] 75)).alloc (.cells #[.int .i64 0, .int .i64 0, .slice none 0 0] 75)).alloc (.cells #[.int .i64 2, .int .i64 0, .slice (some ⟨g2, 0, none⟩) 2 fc] 75)).alloc (.cells #[.int .i64 4, .int .i64 0, .slice ho 0 hc] 75)).cell? ⟨g2, 5, none⟩ = some (.slice yo y.kids.length yc) := by rw [World.cell?_of_block (w := w) (a := ⟨g2, 5, none⟩) ((((((Below.refl w.heap.size w).alloc (Nat.le_refl _) _).alloc (by simp) _).alloc (by simp; omega) _).alloc (by simp; omega) _).block g2 hgl2)]; exact d2
          clear a0 a1 a2 b0 b1 b2 d0 d1 d2 e0 e1 e2
          have hR : RowAt ((((w.alloc (.cells #[.int .i64 2, .int .i64 0, .slice (some ⟨g, 0, none⟩) 2 cz] 75)).alloc (.cells #[.int .i64 y.kd, .int .i64 y.nm, .slice yo y.kids.length yc] 75)).alloc (.cells #[.int .i64 2, .int .i64 0, .slice (some ⟨g2, 0, none⟩) 2 fc] 75)).alloc (.cells #[.int .i64 4, .int .i64 0, .slice ho 0 hc] 75)) (w.heap.size + 1) 75 #[.int .i64 y.kd, .int .i64 y.nm, .slice yo y.kids.length yc] := by
            have h0 := RowAt.new (w.alloc (.cells #[.int .i64 2, .int .i64 0, .slice (some ⟨g, 0, none⟩) 2 cz] 75)) 75 #[.int .i64 y.kd, .int .i64 y.nm, .slice yo y.kids.length yc]
            rw [World.size_alloc] at h0
            exact (RowAt.old (RowAt.old h0 _) _)
          have HR := hideT' hR
          have HB : Hid (Below w.heap.size w ((((w.alloc (.cells #[.int .i64 2, .int .i64 0, .slice (some ⟨g, 0, none⟩) 2 cz] 75)).alloc (.cells #[.int .i64 y.kd, .int .i64 y.nm, .slice yo y.kids.length yc] 75)).alloc (.cells #[.int .i64 2, .int .i64 0, .slice (some ⟨g2, 0, none⟩) 2 fc] 75)).alloc (.cells #[.int .i64 4, .int .i64 0, .slice ho 0 hc] 75))) := (((((Below.refl w.heap.size w).alloc (Nat.le_refl _) _).alloc (by simp) _).alloc (by simp; omega) _).alloc (by simp; omega) _)
          clear hR
          go_enter Try.func82, Try.ntmps82
          go_wp2_with fail
          refine bodyPost_ret (v := .tuple #[.agg (lcC y.kd y.nm (.slice yo y.kids.length yc)), .bool true]) (res_lc_tmp Try.results82 _ _ (w.heap.size + 1) y.kd y.nm (.slice yo y.kids.length yc) (.bool true) rfl rfl HR.out) rfl ⟨?_, HB.out⟩
          rw [HE.out]
          exact ⟨_, rfl, LcIn.keep (w := w) HB.out.size (fun y _ hl => HB.out.block y hl) (fun y hy _ => .inl hy) HZY.out⟩
        · have HE : Hid (r = none) := by unfold Hid; rw [hr]; cases c <;> first | rfl | exact absurd rfl hci
          obtain ⟨kh, hkh⟩ : ∃ kh, kh = (Lm.var c).kd := ⟨_, rfl⟩
          obtain ⟨nh, hnh⟩ : ∃ nh, nh = (Lm.var c).nm := ⟨_, rfl⟩
          have h1 : ¬ kh = 2 := by rw [hkh]; exact c.kd2
          have h4 : ¬ kh = 4 := by rw [hkh]; cases c <;> first | exact absurd rfl hci | (simp [Lm.kd, Leaf.kd])
          have h1b : (kh == 2) = false := by simp [h1]
          have h1c : (kh != 2) = true := by simp [h1]
          have h4b : (kh == 4) = false := by simp [h4]
          rw [← hkh] at b0
          rw [← hnh] at b1
          clear hr hci
          have c0 : ((w.alloc (.cells #[.int .i64 2, .int .i64 0, .slice (some ⟨g, 0, none⟩) 2 cz] 75)).alloc (.cells #[.int .i64 0, .int .i64 0, .slice none 0 0] 75)).cell? ⟨g, 0, none⟩ = some (.int .i64 2) := by rw [World.cell?_of_block (w := w) (a := ⟨g, 0, none⟩) ((((Below.refl w.heap.size w).alloc (Nat.le_refl _) _).alloc (by simp) _).block g hgl)]; exact a0
          have c1 : ((w.alloc (.cells #[.int .i64 2, .int .i64 0, .slice (some ⟨g, 0, none⟩) 2 cz] 75)).alloc (.cells #[.int .i64 0, .int .i64 0, .slice none 0 0] 75)).cell? ⟨g, 1, none⟩ = some (.int .i64 0) := by rw [World.cell?_of_block (w := w) (a := ⟨g, 1, none⟩) ((((Below.refl w.heap.size w).alloc (Nat.le_refl _) _).alloc (by simp) _).block g hgl)]; exact a1
          have c2 : ((w.alloc (.cells #[.int .i64 2, .int .i64 0, .slice (some ⟨g, 0, none⟩) 2 cz] 75)).alloc (.cells #[.int .i64 0, .int .i64 0, .slice none 0 0] 75)).cell? ⟨g, 2, none⟩ = some (.slice (some ⟨g2, 0, none⟩) 2 fc) := by rw [World.cell?_of_block (w := w) (a := ⟨g, 2, none⟩) ((((Below.refl w.heap.size w).alloc (Nat.le_refl _) _).alloc (by simp) _).block g hgl)]; exact a2
          have q0 : (((w.alloc (.cells #[.int .i64 2, .int .i64 0, .slice (some ⟨g, 0, none⟩) 2 cz] 75)).alloc (.cells #[.int .i64 0, .int .i64 0, .slice none 0 0] 75)).alloc (.cells #[.int .i64 2, .int .i64 0, .slice (some ⟨g2, 0, none⟩) 2 fc] 75)).cell? ⟨g2, 0, none⟩ = some (.int .i64 kh) := by rw [World.cell?_of_block (w := w) (a := ⟨g2, 0, none⟩) (((((Below.refl w.heap.size w).alloc (Nat.le_refl _) _).alloc (by simp) _).alloc (by simp; omega) _).block g2 hgl2)]; exact b0
          have q1 : (((w.alloc (.cells #[.int .i64 2, .int .i64 0, .slice (some ⟨g, 0, none⟩) 2 cz] 75)).alloc (.cells #[.int .i64 0, .int .i64 0, .slice none 0 0] 75)).alloc (.cells #[.int .i64 2, .int .i64 0, .slice (some ⟨g2, 0, none⟩) 2 fc] 75)).cell? ⟨g2, 1, none⟩ = some (.int .i64 nh) := by rw [World.cell?_of_block (w := w) (a := ⟨g2, 1, none⟩) (((((Below.refl w.heap.size w).alloc (Nat.le_refl _) _).alloc (by simp) _).alloc (by simp; omega) _).block g2 hgl2)]; exact b1
          have q2 : (((w.alloc (.cells #[.int .i64 2, .int .i64 0, .slice (some ⟨g, 0, none⟩) 2 cz] 75)).alloc (.cells #[.int .i64 0, .int .i64 0, .slice none 0 0] 75)).alloc (.cells #[.int .i64 2, .int .i64 0, .slice (some ⟨g2, 0, none⟩) 2 fc] 75)).cell? ⟨g2, 2, none⟩ = some (.slice ho 0 hc) := by rw [World.cell?_of_block (w := w) (a := ⟨g2, 2, none⟩) (((((Below.refl w.heap.size w).alloc (Nat.le_refl _) _).alloc (by simp) _).alloc (by simp; omega) _).block g2 hgl2)]; exact b2
          clear a0 a1 a2 b0 b1 b2 d0 d1 d2 e0 e1 e2 hkh hnh
          have hR : RowAt ((((w.alloc (.cells #[.int .i64 2, .int .i64 0, .slice (some ⟨g, 0, none⟩) 2 cz] 75)).alloc (.cells #[.int .i64 2, .int .i64 0, .slice (some ⟨g, 0, none⟩) 2 cz] 75)).alloc (.cells #[.int .i64 2, .int .i64 0, .slice (some ⟨g2, 0, none⟩) 2 fc] 75)).alloc (.cells #[.int .i64 kh, .int .i64 nh, .slice ho 0 hc] 75)) (w.heap.size + 1) 75 #[.int .i64 2, .int .i64 0, .slice (some ⟨g, 0, none⟩) 2 cz] := by
            have h0 := RowAt.new (w.alloc (.cells #[.int .i64 2, .int .i64 0, .slice (some ⟨g, 0, none⟩) 2 cz] 75)) 75 #[.int .i64 2, .int .i64 0, .slice (some ⟨g, 0, none⟩) 2 cz]
            rw [World.size_alloc] at h0
            exact (RowAt.old (RowAt.old h0 _) _)
          have HR := hideT' hR
          have HB : Hid (Below w.heap.size w ((((w.alloc (.cells #[.int .i64 2, .int .i64 0, .slice (some ⟨g, 0, none⟩) 2 cz] 75)).alloc (.cells #[.int .i64 2, .int .i64 0, .slice (some ⟨g, 0, none⟩) 2 cz] 75)).alloc (.cells #[.int .i64 2, .int .i64 0, .slice (some ⟨g2, 0, none⟩) 2 fc] 75)).alloc (.cells #[.int .i64 kh, .int .i64 nh, .slice ho 0 hc] 75))) := (((((Below.refl w.heap.size w).alloc (Nat.le_refl _) _).alloc (by simp) _).alloc (by simp; omega) _).alloc (by simp; omega) _)
          clear hR
          go_enter Try.func82, Try.ntmps82
          go_wp2_with fail
          refine bodyPost_ret (v := .tuple #[.agg (lcC 2 0 (.slice (some ⟨g, 0, none⟩) 2 cz)), .bool false]) (res_lc_tmp Try.results82 _ _ (w.heap.size + 1) 2 0 (.slice (some ⟨g, 0, none⟩) 2 cz) (.bool false) rfl rfl HR.out) rfl ⟨?_, HB.out⟩
          rw [HE.out]
          exact ⟨_, _, _, _, _, rfl⟩
      | app u v =>
        obtain ⟨g3, hc, zu, zv, rfl, ⟨hgl3, hgP3⟩, ⟨u0, u1, u2⟩, ⟨v0, v1, v2⟩, hzu, hzv⟩ := hzh
        obtain ⟨vo, vc, rfl⟩ := hzv.form
        have HZV := hideT' hzv
        clear hzv hzu hgP3 u1 u2
        by_cases hus : u.kd = 3
        · have hu : u = .var .s := by
            cases u with
            | var c => cases c <;> simp [Lm.kd, Leaf.kd] at hus; rfl
            | app a b => simp [Lm.kd] at hus
          subst hu
          have HE : Hid (r = some (.app (.app v x) (.app y x))) := hr
          clear hr hus
          have c0 : ((w.alloc (.cells #[.int .i64 2, .int .i64 0, .slice (some ⟨g, 0, none⟩) 2 cz] 75)).alloc (.cells #[.int .i64 0, .int .i64 0, .slice none 0 0] 75)).cell? ⟨g, 0, none⟩ = some (.int .i64 2) := by rw [World.cell?_of_block (w := w) (a := ⟨g, 0, none⟩) ((((Below.refl w.heap.size w).alloc (Nat.le_refl _) _).alloc (by simp) _).block g hgl)]; exact a0
          have c1 : ((w.alloc (.cells #[.int .i64 2, .int .i64 0, .slice (some ⟨g, 0, none⟩) 2 cz] 75)).alloc (.cells #[.int .i64 0, .int .i64 0, .slice none 0 0] 75)).cell? ⟨g, 1, none⟩ = some (.int .i64 0) := by rw [World.cell?_of_block (w := w) (a := ⟨g, 1, none⟩) ((((Below.refl w.heap.size w).alloc (Nat.le_refl _) _).alloc (by simp) _).block g hgl)]; exact a1
          have c2 : ((w.alloc (.cells #[.int .i64 2, .int .i64 0, .slice (some ⟨g, 0, none⟩) 2 cz] 75)).alloc (.cells #[.int .i64 0, .int .i64 0, .slice none 0 0] 75)).cell? ⟨g, 2, none⟩ = some (.slice (some ⟨g2, 0, none⟩) 2 fc) := by rw [World.cell?_of_block (w := w) (a := ⟨g, 2, none⟩) ((((Below.refl w.heap.size w).alloc (Nat.le_refl _) _).alloc (by simp) _).block g hgl)]; exact a2
          have q0 : (((w.alloc (.cells #[.int .i64 2, .int .i64 0, .slice (some ⟨g, 0, none⟩) 2 cz] 75)).alloc (.cells #[.int .i64 0, .int .i64 0, .slice none 0 0] 75)).alloc (.cells #[.int .i64 2, .int .i64 0, .slice (some ⟨g2, 0, none⟩) 2 fc] 75)).cell? ⟨g2, 0, none⟩ = some (.int .i64 2) := by rw [World.cell?_of_block (w := w) (a := ⟨g2, 0, none⟩) (((((Below.refl w.heap.size w).alloc (Nat.le_refl _) _).alloc (by simp) _).alloc (by simp; omega) _).block g2 hgl2)]; exact b0
          have q1 : (((w.alloc (.cells #[.int .i64 2, .int .i64 0, .slice (some ⟨g, 0, none⟩) 2 cz] 75)).alloc (.cells #[.int .i64 0, .int .i64 0, .slice none 0 0] 75)).alloc (.cells #[.int .i64 2, .int .i64 0, .slice (some ⟨g2, 0, none⟩) 2 fc] 75)).cell? ⟨g2, 1, none⟩ = some (.int .i64 0) := by rw [World.cell?_of_block (w := w) (a := ⟨g2, 1, none⟩) (((((Below.refl w.heap.size w).alloc (Nat.le_refl _) _).alloc (by simp) _).alloc (by simp; omega) _).block g2 hgl2)]; exact b1
          have q2 : (((w.alloc (.cells #[.int .i64 2, .int .i64 0, .slice (some ⟨g, 0, none⟩) 2 cz] 75)).alloc (.cells #[.int .i64 0, .int .i64 0, .slice none 0 0] 75)).alloc (.cells #[.int .i64 2, .int .i64 0, .slice (some ⟨g2, 0, none⟩) 2 fc] 75)).cell? ⟨g2, 2, none⟩ = some (.slice (some ⟨g3, 0, none⟩) 2 hc) := by rw [World.cell?_of_block (w := w) (a := ⟨g2, 2, none⟩) (((((Below.refl w.heap.size w).alloc (Nat.le_refl _) _).alloc (by simp) _).alloc (by simp; omega) _).block g2 hgl2)]; exact b2
          have r0 : ((((w.alloc (.cells #[.int .i64 2, .int .i64 0, .slice (some ⟨g, 0, none⟩) 2 cz] 75)).alloc (.cells #[.int .i64 0, .int .i64 0, .slice none 0 0] 75)).alloc (.cells #[.int .i64 2, .int .i64 0, .slice (some ⟨g2, 0, none⟩) 2 fc] 75)).alloc (.cells #[.int .i64 2, .int .i64 0, .slice (some ⟨g3, 0, none⟩) 2 hc] 75)).cell? ⟨g3, 0, none⟩ = some (.int .i64 3) := by rw [World.cell?_of_block (w := w) (a := ⟨g3, 0, none⟩) ((((((Below.refl w.heap.size w).alloc (Nat.le_refl _) _).alloc (by simp) _).alloc (by simp; omega) _).alloc (by simp; omega) _).block g3 hgl3)]; exact u0
          have s0 : ((((w.alloc (.cells #[.int .i64 2, .int .i64 0, .slice (some ⟨g, 0, none⟩) 2 cz] 75)).alloc (.cells #[.int .i64 0, .int .i64 0, .slice none 0 0] 75)).alloc (.cells #[.int .i64 2, .int .i64 0, .slice (some ⟨g2, 0, none⟩) 2 fc] 75)).alloc (.cells #[.int .i64 2, .int .i64 0, .slice (some ⟨g3, 0, none⟩) 2 hc] 75)).cell? ⟨g, 3, none⟩ = some (.int .i64 x.kd) := by rw [World.cell?_of_block (w := w) (a := ⟨g, 3, none⟩) ((((((Below.refl w.heap.size w).alloc (Nat.le_refl _) _).alloc (by simp) _).alloc (by simp; omega) _).alloc (by simp; omega) _).block g hgl)]; exact e0
          have s1 : ((((w.alloc (.cells #[.int .i64 2, .int .i64 0, .slice (some ⟨g, 0, none⟩) 2 cz] 75)).alloc (.cells #[.int .i64 0, .int .i64 0, .slice none 0 0] 75)).alloc (.cells #[.int .i64 2, .int .i64 0, .slice (some ⟨g2, 0, none⟩) 2 fc] 75)).alloc (.cells #[.int .i64 2, .int .i64 0, .slice (some ⟨g3, 0, none⟩) 2 hc] 75)).cell? ⟨g, 4, none⟩ = some (.int .i64 x.nm) := by rw [World.cell?_of_block (w := w) (a := ⟨g, 4, none⟩) ((((((Below.refl w.heap.size w).alloc (Nat.le_refl _) _).alloc (by simp) _).alloc (by simp; omega) _).alloc (by simp; omega) _).block g hgl)]; exact e1
          have s2 : ((((w.alloc (.cells #[.int .i64 2, .int .i64 0, .slice (some ⟨g, 0, none⟩) 2 cz] 75)).alloc (.cells #[.int .i64 0, .int .i64 0, .slice none 0 0] 75)).alloc (.cells #[.int .i64 2, .int .i64 0, .slice (some ⟨g2, 0, none⟩) 2 fc] 75)).alloc (.cells #[.int .i64 2, .int .i64 0, .slice (some ⟨g3, 0, none⟩) 2 hc] 75)).cell? ⟨g, 5, none⟩ = some (.slice xo x.kids.length xc) := by rw [World.cell?_of_block (w := w) (a := ⟨g, 5, none⟩) ((((((Below.refl w.heap.size w).alloc (Nat.le_refl _) _).alloc (by simp) _).alloc (by simp; omega) _).alloc (by simp; omega) _).block g hgl)]; exact e2
          obtain ⟨W9, hW9⟩ : ∃ W9, W9 = (((((w.alloc (.cells #[.int .i64 2, .int .i64 0, .slice (some ⟨g, 0, none⟩) 2 cz] 75)).alloc (.cells #[.int .i64 0, .int .i64 0, .slice none 0 0] 75)).alloc (.cells #[.int .i64 2, .int .i64 0, .slice (some ⟨g2, 0, none⟩) 2 fc] 75)).alloc (.cells #[.int .i64 2, .int .i64 0, .slice (some ⟨g3, 0, none⟩) 2 hc] 75)).alloc (.cells #[.int .i64 x.kd, .int .i64 x.nm, .slice xo x.kids.length xc] 75)) := ⟨_, rfl⟩
          have hBW9 : Below w.heap.size w W9 := by rw [hW9]; exact ((((((Below.refl w.heap.size w).alloc (Nat.le_refl _) _).alloc (by simp) _).alloc (by simp; omega) _).alloc (by simp; omega) _).alloc (by simp; omega) _)
          have hs9 : W9.heap.size = w.heap.size + 5 := by rw [hW9]; simp
          have hRz9 : RowAt W9 (w.heap.size + 1) 75 #[.int .i64 0, .int .i64 0, .slice none 0 0] := by
            rw [hW9]
            have h0 := RowAt.new (w.alloc (.cells #[.int .i64 2, .int .i64 0, .slice (some ⟨g, 0, none⟩) 2 cz] 75)) 75 #[.int .i64 0, .int .i64 0, .slice none 0 0]
            rw [World.size_alloc] at h0
            exact (RowAt.old (RowAt.old (RowAt.old h0 _) _) _)
          have hR2 : RowAt W9 (w.heap.size + 1 + 1) 75 #[.int .i64 2, .int .i64 0, .slice (some ⟨g2, 0, none⟩) 2 fc] := by
            rw [hW9]
            have h0 := RowAt.new ((w.alloc (.cells #[.int .i64 2, .int .i64 0, .slice (some ⟨g, 0, none⟩) 2 cz] 75)).alloc (.cells #[.int .i64 0, .int .i64 0, .slice none 0 0] 75)) 75 #[.int .i64 2, .int .i64 0, .slice (some ⟨g2, 0, none⟩) 2 fc]
            rw [World.size_alloc, World.size_alloc] at h0
            exact (RowAt.old (RowAt.old h0 _) _)
          have hR3 : RowAt W9 (w.heap.size + 1 + 1 + 1) 75 #[.int .i64 2, .int .i64 0, .slice (some ⟨g3, 0, none⟩) 2 hc] := by
            rw [hW9]
            have h0 := RowAt.new (((w.alloc (.cells #[.int .i64 2, .int .i64 0, .slice (some ⟨g, 0, none⟩) 2 cz] 75)).alloc (.cells #[.int .i64 0, .int .i64 0, .slice none 0 0] 75)).alloc (.cells #[.int .i64 2, .int .i64 0, .slice (some ⟨g2, 0, none⟩) 2 fc] 75)) 75 #[.int .i64 2, .int .i64 0, .slice (some ⟨g3, 0, none⟩) 2 hc]
            rw [World.size_alloc, World.size_alloc, World.size_alloc] at h0
            exact (RowAt.old h0 _)
          have hR4 : RowAt W9 (w.heap.size + 1 + 1 + 1 + 1) 75 #[.int .i64 x.kd, .int .i64 x.nm, .slice xo x.kids.length xc] := by
            rw [hW9]
            have h0 := RowAt.new ((((w.alloc (.cells #[.int .i64 2, .int .i64 0, .slice (some ⟨g, 0, none⟩) 2 cz] 75)).alloc (.cells #[.int .i64 0, .int .i64 0, .slice none 0 0] 75)).alloc (.cells #[.int .i64 2, .int .i64 0, .slice (some ⟨g2, 0, none⟩) 2 fc] 75)).alloc (.cells #[.int .i64 2, .int .i64 0, .slice (some ⟨g3, 0, none⟩) 2 hc] 75)) 75 #[.int .i64 x.kd, .int .i64 x.nm, .slice xo x.kids.length xc]
            rw [World.size_alloc, World.size_alloc, World.size_alloc, World.size_alloc] at h0
            exact h0
          have y0 : W9.cell? ⟨g2, 3, none⟩ = some (.int .i64 y.kd) := by rw [hBW9.cell (p := ⟨g2, 3, none⟩) hgl2]; exact d0
          have y1 : W9.cell? ⟨g2, 4, none⟩ = some (.int .i64 y.nm) := by rw [hBW9.cell (p := ⟨g2, 4, none⟩) hgl2]; exact d1
          have y2 : W9.cell? ⟨g2, 5, none⟩ = some (.slice yo y.kids.length yc) := by rw [hBW9.cell (p := ⟨g2, 5, none⟩) hgl2]; exact d2
          have z0 : W9.cell? ⟨g3, 3, none⟩ = some (.int .i64 v.kd) := by rw [hBW9.cell (p := ⟨g3, 3, none⟩) hgl3]; exact v0
          have z1 : W9.cell? ⟨g3, 4, none⟩ = some (.int .i64 v.nm) := by rw [hBW9.cell (p := ⟨g3, 4, none⟩) hgl3]; exact v1
          have z2 : W9.cell? ⟨g3, 5, none⟩ = some (.slice vo v.kids.length vc) := by rw [hBW9.cell (p := ⟨g3, 5, none⟩) hgl3]; exact v2
          have f2 : W9.cell? ⟨w.heap.size + 1 + 1, 2, none⟩ = some (.slice (some ⟨g2, 0, none⟩) 2 fc) := by rw [cell_of_row _ _ _ _ _ _ hR2]; rfl
          have h2 : W9.cell? ⟨w.heap.size + 1 + 1 + 1, 2, none⟩ = some (.slice (some ⟨g3, 0, none⟩) 2 hc) := by rw [cell_of_row _ _ _ _ _ _ hR3]; rfl
          have x0 : W9.cell? ⟨w.heap.size + 1 + 1 + 1 + 1, 0, none⟩ = some (.int .i64 x.kd) := by rw [cell_of_row _ _ _ _ _ _ hR4]; rfl
          have x1 : W9.cell? ⟨w.heap.size + 1 + 1 + 1 + 1, 1, none⟩ = some (.int .i64 x.nm) := by rw [cell_of_row _ _ _ _ _ _ hR4]; rfl
          have x2 : W9.cell? ⟨w.heap.size + 1 + 1 + 1 + 1, 2, none⟩ = some (.slice xo x.kids.length xc) := by rw [cell_of_row _ _ _ _ _ _ hR4]; rfl
          have hx9 : LcIn W9 (fun y => (P y ∧ y < w.heap.size) ∨ W9.heap.size ≤ y) x (.slice xo x.kids.length xc) := LcIn.keep (w := w) hBW9.size (fun y _ hl => hBW9.block y hl) (fun y h hl => .inl ⟨h, hl⟩) HZX.out
          have hy9 : LcIn W9 (fun y => (P y ∧ y < w.heap.size) ∨ W9.heap.size ≤ y) y (.slice yo y.kids.length yc) := LcIn.keep (w := w) hBW9.size (fun y _ hl => hBW9.block y hl) (fun y h hl => .inl ⟨h, hl⟩) HZY.out
          have hv9 : LcIn W9 (fun y => (P y ∧ y < w.heap.size) ∨ W9.heap.size ≤ y) v (.slice vo v.kids.length vc) := LcIn.keep (w := w) hBW9.size (fun y _ hl => hBW9.block y hl) (fun y h hl => .inl ⟨h, hl⟩) HZV.out
          have HBW9 := hideT' hBW9
          have HZ9 := hideT' (And.intro hx9 (And.intro hy9 hv9))
          have HRZ9 := hideT' hRz9
          have HM9 : Hid (W9.cell? ⟨w.heap.size + 1 + 1, 2, none⟩ = some (.slice (some ⟨g2, 0, none⟩) 2 fc) ∧ W9.cell? ⟨w.heap.size + 1 + 1 + 1, 2, none⟩ = some (.slice (some ⟨g3, 0, none⟩) 2 hc) ∧ W9.cell? ⟨w.heap.size + 1 + 1 + 1 + 1, 0, none⟩ = some (.int .i64 x.kd) ∧ W9.cell? ⟨w.heap.size + 1 + 1 + 1 + 1, 1, none⟩ = some (.int .i64 x.nm) ∧ W9.cell? ⟨w.heap.size + 1 + 1 + 1 + 1, 2, none⟩ = some (.slice xo x.kids.length xc) ∧ W9.cell? ⟨g2, 3, none⟩ = some (.int .i64 y.kd) ∧ W9.cell? ⟨g2, 4, none⟩ = some (.int .i64 y.nm) ∧ W9.cell? ⟨g2, 5, none⟩ = some (.slice yo y.kids.length yc) ∧ W9.cell? ⟨g3, 3, none⟩ = some (.int .i64 v.kd) ∧ W9.cell? ⟨g3, 4, none⟩ = some (.int .i64 v.nm) ∧ W9.cell? ⟨g3, 5, none⟩ = some (.slice vo v.kids.length vc)) := ⟨f2, h2, x0, x1, x2, y0, y1, y2, z0, z1, z2⟩
          have HS9 : Hid (W9.heap.size = w.heap.size + 5 ∧ g < w.heap.size ∧ g2 < w.heap.size ∧ g3 < w.heap.size) := ⟨hs9, hgl, hgl2, hgl3⟩
          clear a0 a1 a2 b0 b1 b2 d0 d1 d2 e0 e1 e2 u0 v0 v1 v2 hBW9 hs9 hRz9 hR2 hR3 hR4 y0 y1 y2 z0 z1 z2 f2 h2 x0 x1 x2 hx9 hy9 hv9
          go_enter Try.func82, Try.ntmps82
          go_wp2_with fail
          rw [← hW9]
          clear hW9 c0 c1 c2 q0 q1 q2 r0 s0 s1 s2
          obtain ⟨f2, h2, x0, x1, x2, y0, y1, y2, z0, z1, z2⟩ := HM9.out
          obtain ⟨hs9, hgl, hgl2, hgl3⟩ := HS9.out
          refine held_begin (fun w' => ∀ y, y < W9.heap.size → y ≠ w.heap.size + 1 → w'.heap[y]? = W9.heap[y]?) (by kernel_rfl) ?_
          have hS : ∀ y, y < W9.heap.size → y ≠ w.heap.size + 1 → W9.drew.heap[y]? = W9.heap[y]? := fun _ _ _ => rfl
          refine held_valS 0 (some 52) rfl rfl (by kernel_rfl) (by kernel_rfl) (by kernel_rfl) noPanic_put rfl (.pointer (some ⟨w.heap.size + 1 + 1 + 1, 2, none⟩)) (fun _ _ => by go_simp) hS ?_
          simp only [Act.put, List.setIfInBounds_toArray, List.set_cons_zero, List.set_cons_succ]
          refine held_valS 1 (some 53) rfl rfl (by kernel_rfl) (by kernel_rfl) (by kernel_rfl) noPanic_put rfl (.slice (some ⟨g3, 0, none⟩) 2 hc) (fun w' h => by have q0 := ((World.cell?_of_block (w := W9) (a := ⟨w.heap.size + 1 + 1 + 1, 2, none⟩) (h (w.heap.size + 1 + 1 + 1) (by omega) (by omega))).trans h2); go_simp) hS ?_
          simp only [Act.put, List.setIfInBounds_toArray, List.set_cons_zero, List.set_cons_succ]
          refine held_valS 2 (some 54) rfl rfl (by kernel_rfl) (by kernel_rfl) (by kernel_rfl) noPanic_put rfl (.pointer (some ⟨g3, 3, none⟩)) (fun _ _ => by go_simp) hS ?_
          simp only [Act.put, List.setIfInBounds_toArray, List.set_cons_zero, List.set_cons_succ]
          refine held_valS 3 (some 55) rfl rfl (by kernel_rfl) (by kernel_rfl) (by kernel_rfl) noPanic_put rfl (.agg (lcC v.kd v.nm (.slice vo v.kids.length vc))) (fun w' h => by unfold lcC; have q0 := ((World.cell?_of_block (w := W9) (a := ⟨g3, 3, none⟩) (h (g3) (by omega) (by omega))).trans z0); have q1 := ((World.cell?_of_block (w := W9) (a := ⟨g3, 4, none⟩) (h (g3) (by omega) (by omega))).trans z1); have q2 := ((World.cell?_of_block (w := W9) (a := ⟨g3, 5, none⟩) (h (g3) (by omega) (by omega))).trans z2); go_simp) hS ?_
          simp only [Act.put, List.setIfInBounds_toArray, List.set_cons_zero, List.set_cons_succ]
          refine held_valS 4 (some 56) rfl rfl (by kernel_rfl) (by kernel_rfl) (by kernel_rfl) noPanic_put rfl (.agg (lcC x.kd x.nm (.slice xo x.kids.length xc))) (fun w' h => by unfold lcC; have q0 := ((World.cell?_of_block (w := W9) (a := ⟨w.heap.size + 1 + 1 + 1 + 1, 0, none⟩) (h (w.heap.size + 1 + 1 + 1 + 1) (by omega) (by omega))).trans x0); have q1 := ((World.cell?_of_block (w := W9) (a := ⟨w.heap.size + 1 + 1 + 1 + 1, 1, none⟩) (h (w.heap.size + 1 + 1 + 1 + 1) (by omega) (by omega))).trans x1); have q2 := ((World.cell?_of_block (w := W9) (a := ⟨w.heap.size + 1 + 1 + 1 + 1, 2, none⟩) (h (w.heap.size + 1 + 1 + 1 + 1) (by omega) (by omega))).trans x2); go_simp) hS ?_
          simp only [Act.put, List.setIfInBounds_toArray, List.set_cons_zero, List.set_cons_succ]
          refine held_valS 6 (some 58) rfl rfl (by kernel_rfl) (by kernel_rfl) (by kernel_rfl) noPanic_put rfl (.pointer (some ⟨w.heap.size + 1 + 1, 2, none⟩)) (fun _ _ => by go_simp) hS ?_
          simp only [Act.put, List.setIfInBounds_toArray, List.set_cons_zero, List.set_cons_succ]
          refine held_valS 7 (some 59) rfl rfl (by kernel_rfl) (by kernel_rfl) (by kernel_rfl) noPanic_put rfl (.slice (some ⟨g2, 0, none⟩) 2 fc) (fun w' h => by have q0 := ((World.cell?_of_block (w := W9) (a := ⟨w.heap.size + 1 + 1, 2, none⟩) (h (w.heap.size + 1 + 1) (by omega) (by omega))).trans f2); go_simp) hS ?_
          simp only [Act.put, List.setIfInBounds_toArray, List.set_cons_zero, List.set_cons_succ]
          refine held_valS 8 (some 60) rfl rfl (by kernel_rfl) (by kernel_rfl) (by kernel_rfl) noPanic_put rfl (.pointer (some ⟨g2, 3, none⟩)) (fun _ _ => by go_simp) hS ?_
          simp only [Act.put, List.setIfInBounds_toArray, List.set_cons_zero, List.set_cons_succ]
          refine held_valS 9 (some 61) rfl rfl (by kernel_rfl) (by kernel_rfl) (by kernel_rfl) noPanic_put rfl (.agg (lcC y.kd y.nm (.slice yo y.kids.length yc))) (fun w' h => by unfold lcC; have q0 := ((World.cell?_of_block (w := W9) (a := ⟨g2, 3, none⟩) (h (g2) (by omega) (by omega))).trans y0); have q1 := ((World.cell?_of_block (w := W9) (a := ⟨g2, 4, none⟩) (h (g2) (by omega) (by omega))).trans y1); have q2 := ((World.cell?_of_block (w := W9) (a := ⟨g2, 5, none⟩) (h (g2) (by omega) (by omega))).trans y2); go_simp) hS ?_
          simp only [Act.put, List.setIfInBounds_toArray, List.set_cons_zero, List.set_cons_succ]
          refine held_valS 10 (some 62) rfl rfl (by kernel_rfl) (by kernel_rfl) (by kernel_rfl) noPanic_put rfl (.agg (lcC x.kd x.nm (.slice xo x.kids.length xc))) (fun w' h => by unfold lcC; have q0 := ((World.cell?_of_block (w := W9) (a := ⟨w.heap.size + 1 + 1 + 1 + 1, 0, none⟩) (h (w.heap.size + 1 + 1 + 1 + 1) (by omega) (by omega))).trans x0); have q1 := ((World.cell?_of_block (w := W9) (a := ⟨w.heap.size + 1 + 1 + 1 + 1, 1, none⟩) (h (w.heap.size + 1 + 1 + 1 + 1) (by omega) (by omega))).trans x1); have q2 := ((World.cell?_of_block (w := W9) (a := ⟨w.heap.size + 1 + 1 + 1 + 1, 2, none⟩) (h (w.heap.size + 1 + 1 + 1 + 1) (by omega) (by omega))).trans x2); go_simp) hS ?_
          simp only [Act.put, List.setIfInBounds_toArray, List.set_cons_zero, List.set_cons_succ]
          have hbw : Below W9.heap.size W9 W9.drew := (Below.refl _ _).drew
          refine held_call 5 (some 57) (by kernel_rfl) rfl rfl rfl 73 #[.agg (lcC v.kd v.nm (.slice vo v.kids.length vc)), .agg (lcC x.kd x.nm (.slice xo x.kids.length xc))] (by go_simp) _ (lcApp_any v x _ _ _ _ (LcIn.below hbw HZ9.out.2.2) (LcIn.below hbw HZ9.out.1)) ?_
          rintro e w5 ⟨⟨z5, rfl, hz5⟩, hw5⟩
          have hw5 : Below W9.heap.size W9 w5 := ⟨hw5.os, hw5.tape, hw5.output, hw5.size, hw5.block⟩
          have hsz5 := hw5.size
          have hS5 : ∀ y, y < W9.heap.size → y ≠ w.heap.size + 1 → w5.heap[y]? = W9.heap[y]? := fun y hy hn => (hw5.block y (by omega)).trans (hS y hy hn)
          refine ⟨_, rfl, hS5, ?_⟩
          simp only [Act.put, List.setIfInBounds_toArray, List.set_cons_zero, List.set_cons_succ]
          obtain ⟨o5, c5, hzz5⟩ := hz5.form
          subst hzz5
          have hz5' : LcIn w5 (fun y => (P y ∧ y < w.heap.size) ∨ W9.heap.size ≤ y) (Lm.app v x) (.slice o5 (Lm.app v x).kids.length c5) := LcIn.mono (fun y hy _ => by rcases hy with hy | hy; exact hy; exact .inr hy) hz5
          refine held_call 11 (some 63) (by kernel_rfl) rfl rfl rfl 73 #[.agg (lcC y.kd y.nm (.slice yo y.kids.length yc)), .agg (lcC x.kd x.nm (.slice xo x.kids.length xc))] (by go_simp) _ (lcApp_any y x _ _ _ w5 (LcIn.below hw5 HZ9.out.2.1) (LcIn.below hw5 HZ9.out.1)) ?_
          rintro e w6 ⟨⟨z6, rfl, hz6⟩, hw6⟩
          have hsz6 := hw6.size
          have hS6 : ∀ y, y < W9.heap.size → y ≠ w.heap.size + 1 → w6.heap[y]? = W9.heap[y]? := fun y hy hn => (hw6.block y (by omega)).trans (hS5 y hy hn)
          refine ⟨_, rfl, hS6, ?_⟩
          simp only [Act.put, List.setIfInBounds_toArray, List.set_cons_zero, List.set_cons_succ]
          obtain ⟨o6, c6, hzz6⟩ := hz6.form
          subst hzz6
          have hz6' : LcIn w6 (fun y => (P y ∧ y < w.heap.size) ∨ W9.heap.size ≤ y) (Lm.app y x) (.slice o6 (Lm.app y x).kids.length c6) := LcIn.mono (fun y hy _ => by rcases hy with hy | hy; exact hy; exact .inr (by omega)) hz6
          refine held_call 12 (some 64) (by kernel_rfl) rfl rfl rfl 73 #[.agg (lcC 2 0 (.slice o5 (Lm.app v x).kids.length c5)), .agg (lcC 2 0 (.slice o6 (Lm.app y x).kids.length c6))] (by go_simp) _ (lcApp_any (Lm.app v x) (Lm.app y x) _ _ _ w6 (LcIn.below hw6 hz5') hz6') ?_
          rintro e w7 ⟨⟨z7, rfl, hz7⟩, hw7⟩
          have hsz7 := hw7.size
          have hS7 : ∀ y, y < W9.heap.size → y ≠ w.heap.size + 1 → w7.heap[y]? = W9.heap[y]? := fun y hy hn => (hw7.block y (by omega)).trans (hS6 y hy hn)
          refine ⟨_, rfl, hS7, ?_⟩
          simp only [Act.put, List.setIfInBounds_toArray, List.set_cons_zero, List.set_cons_succ]
          obtain ⟨o7, c7, hzz7⟩ := hz7.form
          subst hzz7
          have hB7 : Below W9.heap.size W9 w7 := (hw5.trans (hw6.mono (by omega))).trans (hw7.mono (by omega))
          have hRz : RowAt w7 (w.heap.size + 1) 75 #[.int .i64 0, .int .i64 0, .slice none 0 0] := HRZ9.out.below hB7 (by omega)
          refine held_one 13 (by kernel_rfl) rfl rfl ?_
          intro K hK
          refine store_3_wp 75 (.tmp 2) (.tmp 64) rfl rfl zero_lcT.2 (w.heap.size + 1) (lcC 2 0 (.slice o7 (Lm.app (Lm.app v x) (Lm.app y x)).kids.length c7)) rfl (lcC_one _ _ _ rfl) rfl rfl #[.int .i64 0, .int .i64 0, .slice none 0 0] rfl hRz ?_
          intro w9 hR9 hg9 hs9
          have hS9 : ∀ y, y < W9.heap.size → y ≠ w.heap.size + 1 → w9.heap[y]? = W9.heap[y]? := fun y hy hn => by rw [hg9.block y (by omega) (by intro e; injection e; omega)]; exact hS7 y hy hn
          refine hK.out _ _ hS9 ?_
          refine held_assign 14 (some 3) (by kernel_rfl) rfl rfl _ rfl rfl (.bool true) rfl hS9 ?_
          simp only [Act.put, List.setIfInBounds_toArray, List.set_cons_zero, List.set_cons_succ]
          refine wpAnyH_done (by kernel_rfl) ?_ _
          refine NoPanic.normal ?_
          have HF : Hid (LcIn w9 (fun y => P y ∨ w.heap.size ≤ y) (Lm.app (Lm.app v x) (Lm.app y x)) (.slice o7 (Lm.app (Lm.app v x) (Lm.app y x)).kids.length c7) ∧ Below w.heap.size w w9 ∧ RowAt w9 (w.heap.size + 1) 75 (lcC 2 0 (.slice o7 (Lm.app (Lm.app v x) (Lm.app y x)).kids.length c7))) := by
            refine ⟨LcIn.keep (w := w7) (by omega) (fun y hy hl => hg9.block y hl (by intro e; injection e with e; rcases hy with (hy | hy) | hy <;> omega)) (fun y hy _ => by rcases hy with (hy | hy) | hy; exact .inl hy.1; exact .inr (by omega); exact .inr (by omega)) hz7, (HBW9.out.trans (hB7.mono HBW9.out.size)).grown hg9 (by omega) (by intro k hk; cases hk; omega), hR9⟩
          clear hK hS hS5 hS6 hS7 hS9 hz5 hz5' hz6 hz6' hz7 hw5 hw6 hw7 hB7 hg9 hR9 hRz hbw
          go_wp2
          refine bodyPost_ret (v := .tuple #[.agg (lcC 2 0 (.slice o7 (Lm.app (Lm.app v x) (Lm.app y x)).kids.length c7)), .bool true]) (res_lc_tmp Try.results82 _ _ (w.heap.size + 1) 2 0 (.slice o7 (Lm.app (Lm.app v x) (Lm.app y x)).kids.length c7) (.bool true) rfl rfl HF.out.2.2) rfl ⟨?_, HF.out.2.1⟩
          rw [HE.out]
          exact ⟨_, rfl, HF.out.1⟩
        · have HE : Hid (r = none) := by
            unfold Hid
            rw [hr]
            cases u with
            | var c => cases c <;> first | rfl | exact absurd rfl hus
            | app a b => rfl
          obtain ⟨ku, hku⟩ : ∃ ku, ku = u.kd := ⟨_, rfl⟩
          have h3 : ¬ ku = 3 := by rw [hku]; exact hus
          have h3b : (ku == 3) = false := by simp [h3]
          rw [← hku] at u0
          clear hr hus hku
          have c0 : ((w.alloc (.cells #[.int .i64 2, .int .i64 0, .slice (some ⟨g, 0, none⟩) 2 cz] 75)).alloc (.cells #[.int .i64 0, .int .i64 0, .slice none 0 0] 75)).cell? ⟨g, 0, none⟩ = some (.int .i64 2) := by rw [World.cell?_of_block (w := w) (a := ⟨g, 0, none⟩) ((((Below.refl w.heap.size w).alloc (Nat.le_refl _) _).alloc (by simp) _).block g hgl)]; exact a0
          have c1 : ((w.alloc (.cells #[.int .i64 2, .int .i64 0, .slice (some ⟨g, 0, none⟩) 2 cz] 75)).alloc (.cells #[.int .i64 0, .int .i64 0, .slice none 0 0] 75)).cell? ⟨g, 1, none⟩ = some (.int .i64 0) := by rw [World.cell?_of_block (w := w) (a := ⟨g, 1, none⟩) ((((Below.refl w.heap.size w).alloc (Nat.le_refl _) _).alloc (by simp) _).block g hgl)]; exact a1
          have c2 : ((w.alloc (.cells #[.int .i64 2, .int .i64 0, .slice (some ⟨g, 0, none⟩) 2 cz] 75)).alloc (.cells #[.int .i64 0, .int .i64 0, .slice none 0 0] 75)).cell? ⟨g, 2, none⟩ = some (.slice (some ⟨g2, 0, none⟩) 2 fc) := by rw [World.cell?_of_block (w := w) (a := ⟨g, 2, none⟩) ((((Below.refl w.heap.size w).alloc (Nat.le_refl _) _).alloc (by simp) _).block g hgl)]; exact a2
          have q0 : (((w.alloc (.cells #[.int .i64 2, .int .i64 0, .slice (some ⟨g, 0, none⟩) 2 cz] 75)).alloc (.cells #[.int .i64 0, .int .i64 0, .slice none 0 0] 75)).alloc (.cells #[.int .i64 2, .int .i64 0, .slice (some ⟨g2, 0, none⟩) 2 fc] 75)).cell? ⟨g2, 0, none⟩ = some (.int .i64 2) := by rw [World.cell?_of_block (w := w) (a := ⟨g2, 0, none⟩) (((((Below.refl w.heap.size w).alloc (Nat.le_refl _) _).alloc (by simp) _).alloc (by simp; omega) _).block g2 hgl2)]; exact b0
          have q1 : (((w.alloc (.cells #[.int .i64 2, .int .i64 0, .slice (some ⟨g, 0, none⟩) 2 cz] 75)).alloc (.cells #[.int .i64 0, .int .i64 0, .slice none 0 0] 75)).alloc (.cells #[.int .i64 2, .int .i64 0, .slice (some ⟨g2, 0, none⟩) 2 fc] 75)).cell? ⟨g2, 1, none⟩ = some (.int .i64 0) := by rw [World.cell?_of_block (w := w) (a := ⟨g2, 1, none⟩) (((((Below.refl w.heap.size w).alloc (Nat.le_refl _) _).alloc (by simp) _).alloc (by simp; omega) _).block g2 hgl2)]; exact b1
          have q2 : (((w.alloc (.cells #[.int .i64 2, .int .i64 0, .slice (some ⟨g, 0, none⟩) 2 cz] 75)).alloc (.cells #[.int .i64 0, .int .i64 0, .slice none 0 0] 75)).alloc (.cells #[.int .i64 2, .int .i64 0, .slice (some ⟨g2, 0, none⟩) 2 fc] 75)).cell? ⟨g2, 2, none⟩ = some (.slice (some ⟨g3, 0, none⟩) 2 hc) := by rw [World.cell?_of_block (w := w) (a := ⟨g2, 2, none⟩) (((((Below.refl w.heap.size w).alloc (Nat.le_refl _) _).alloc (by simp) _).alloc (by simp; omega) _).block g2 hgl2)]; exact b2
          have r0 : ((((w.alloc (.cells #[.int .i64 2, .int .i64 0, .slice (some ⟨g, 0, none⟩) 2 cz] 75)).alloc (.cells #[.int .i64 0, .int .i64 0, .slice none 0 0] 75)).alloc (.cells #[.int .i64 2, .int .i64 0, .slice (some ⟨g2, 0, none⟩) 2 fc] 75)).alloc (.cells #[.int .i64 2, .int .i64 0, .slice (some ⟨g3, 0, none⟩) 2 hc] 75)).cell? ⟨g3, 0, none⟩ = some (.int .i64 ku) := by rw [World.cell?_of_block (w := w) (a := ⟨g3, 0, none⟩) ((((((Below.refl w.heap.size w).alloc (Nat.le_refl _) _).alloc (by simp) _).alloc (by simp; omega) _).alloc (by simp; omega) _).block g3 hgl3)]; exact u0
          clear a0 a1 a2 b0 b1 b2 d0 d1 d2 e0 e1 e2 u0 v0 v1 v2
          have hR : RowAt ((((w.alloc (.cells #[.int .i64 2, .int .i64 0, .slice (some ⟨g, 0, none⟩) 2 cz] 75)).alloc (.cells #[.int .i64 2, .int .i64 0, .slice (some ⟨g, 0, none⟩) 2 cz] 75)).alloc (.cells #[.int .i64 2, .int .i64 0, .slice (some ⟨g2, 0, none⟩) 2 fc] 75)).alloc (.cells #[.int .i64 2, .int .i64 0, .slice (some ⟨g3, 0, none⟩) 2 hc] 75)) (w.heap.size + 1) 75 #[.int .i64 2, .int .i64 0, .slice (some ⟨g, 0, none⟩) 2 cz] := by
            have h0 := RowAt.new (w.alloc (.cells #[.int .i64 2, .int .i64 0, .slice (some ⟨g, 0, none⟩) 2 cz] 75)) 75 #[.int .i64 2, .int .i64 0, .slice (some ⟨g, 0, none⟩) 2 cz]
            rw [World.size_alloc] at h0
            exact (RowAt.old (RowAt.old h0 _) _)
          have HR := hideT' hR
          have HB : Hid (Below w.heap.size w ((((w.alloc (.cells #[.int .i64 2, .int .i64 0, .slice (some ⟨g, 0, none⟩) 2 cz] 75)).alloc (.cells #[.int .i64 2, .int .i64 0, .slice (some ⟨g, 0, none⟩) 2 cz] 75)).alloc (.cells #[.int .i64 2, .int .i64 0, .slice (some ⟨g2, 0, none⟩) 2 fc] 75)).alloc (.cells #[.int .i64 2, .int .i64 0, .slice (some ⟨g3, 0, none⟩) 2 hc] 75))) := (((((Below.refl w.heap.size w).alloc (Nat.le_refl _) _).alloc (by simp) _).alloc (by simp; omega) _).alloc (by simp; omega) _)
          clear hR
          go_enter Try.func82, Try.ntmps82
          go_wp2_with fail
          refine bodyPost_ret (v := .tuple #[.agg (lcC 2 0 (.slice (some ⟨g, 0, none⟩) 2 cz)), .bool false]) (res_lc_tmp Try.results82 _ _ (w.heap.size + 1) 2 0 (.slice (some ⟨g, 0, none⟩) 2 cz) (.bool false) rfl rfl HR.out) rfl ⟨?_, HB.out⟩
          rw [HE.out]
          exact ⟨_, _, _, _, _, rfl⟩
end Go.Proofs.Ytnnhedncdpfiaaa.CB

/-
  What ldStep of the model answers.
-/
namespace Go.Proofs.Ytnnhedncdpfiaaa.CB
open Go.RowKit BL
set_option linter.unusedVariables false

/-- What it steps to, or itself; whether it does. -/
def Lm.nx (t : Lm) : Lm := t.stp.getD t
def Lm.can (t : Lm) : Bool := t.stp.isSome
def nxL : Bool → List Lm → List Lm
  | _, [] => []
  | d, k :: ks => (if d then k else k.nx) :: nxL (d || k.can) ks
def dn : Bool → List Lm → Bool
  | d, [] => d
  | d, k :: ks => dn (d || k.can) ks
theorem nxL_len : ∀ (ks : List Lm) {d : Bool}, (nxL d ks).length = ks.length
  | [], d => rfl
  | k :: ks, d => by rw [nxL, List.length_cons, nxL_len ks, List.length_cons]
theorem dn_snoc : ∀ (ks : List Lm) (d : Bool) {T : Lm}, dn d (ks ++ [T]) = (dn d ks || T.can)
  | [], d, T => rfl
  | k :: ks, d, T => by rw [List.cons_append, dn, dn_snoc ks, dn]
theorem nxL_snoc : ∀ (ks : List Lm) (d : Bool) {T : Lm}, nxL d (ks ++ [T]) = nxL d ks ++ [if dn d ks then T else T.nx]
  | [], d, T => rfl
  | k :: ks, d, T => by rw [List.cons_append, nxL, nxL_snoc ks, nxL, List.cons_append, dn]
theorem nx_hd {t s : Lm} (h : t.hd = some s) : t.nx = s ∧ t.can = true := by
  cases t with
  | var c => cases h
  | app f x => simp [Lm.nx, Lm.can, Lm.stp_hd h]
theorem nx_no {t : Lm} (h : t.hd = none) : t.nx.kids = nxL false t.kids ∧ t.nx.kd = t.kd ∧ t.nx.nm = t.nm ∧ t.can = dn false t.kids := by
  cases t with
  | var c => exact ⟨rfl, rfl, rfl, rfl⟩
  | app f x =>
    cases hf : f.stp with
    | some f' =>
      have e := Lm.stp_one (x := x) h hf
      simp [Lm.nx, Lm.can, e, Lm.kids, nxL, dn, hf, Lm.kd, Lm.nm]
    | none =>
      cases hx : x.stp with
      | some x' =>
        have e := Lm.stp_two h hf hx
        simp [Lm.nx, Lm.can, e, Lm.kids, nxL, dn, hf, hx, Lm.kd, Lm.nm]
      | none =>
        have e := Lm.stp_non h hf hx
        simp [Lm.nx, Lm.can, e, Lm.kids, nxL, dn, hf, hx, Lm.kd, Lm.nm]
theorem out_keep {w3 wr w' : World} {ob : Nat} {kd nm : Int} {P : Nat → Prop} {As : List Lm} {z : Value} {ys : List Value} (h : OutZ w3 wr ob kd nm P As z ys) (hk : ∀ b, b < wr.heap.size → w'.heap[b]? = wr.heap[b]?) (hs : wr.heap.size ≤ w'.heap.size) : OutZ w3 w' ob kd nm P As z ys :=
  ⟨by unfold RowAt; rw [hk _ h.row.lt]; exact h.row, own_keep h.own (fun g e => hk g (h.own.lt g e).2), LcsIn.keep hs (fun x _ hl => hk x hl) (fun _ h _ => h) h.kids, fun b hb hne => by rw [hk b (Nat.lt_of_lt_of_le hb h.size)]; exact h.same b hb hne, Nat.le_trans h.size hs, h.lt⟩
def LsC (N : Nat) : Prop := ∀ (t : Lm), t.sz ≤ N → ∀ (z : Value) (P : Nat → Prop) (w : World), LcIn w P t z →
    Calls Try.prog 59 #[.agg (lcC t.kd t.nm z)] w fun e w' => (∃ z', e = .returned (.tuple #[.agg (lcC t.nx.kd t.nx.nm z'), .bool t.can]) ∧ LcIn w' (fun y => P y ∨ w.heap.size ≤ y) t.nx z') ∧ Below w.heap.size w w'
set_option maxHeartbeats 16000000 in
set_option maxRecDepth 100000 in
theorem ldStep_step (N : Nat) (IH : ∀ n, n < N → LsC n) : LsC N := by
  intro t ht z P w hz
  have hz0 := zero_lcT.1
  obtain ⟨oz, cz, hzz⟩ := hz.form
  subst hzz
  have HIH := hideT' IH
  have HTN := hideT' ht
  have HZ := hideT' hz
  obtain ⟨W, hWd⟩ : ∃ W, W = (w.alloc (.cells #[.int .i64 t.kd, .int .i64 t.nm, .slice oz t.kids.length cz] 75)).alloc (.cells #[.int .i64 0, .int .i64 0, .slice none 0 0] 75) := ⟨_, rfl⟩
  have hBW : Below w.heap.size w W := by rw [hWd]; exact ((Below.refl _ _).alloc (Nat.le_refl _) _).alloc (by simp) _
  have hWs : w.heap.size + 2 ≤ W.heap.size := by rw [hWd]; simp
  have hR0 : RowAt W w.heap.size 75 #[.int .i64 t.kd, .int .i64 t.nm, .slice oz t.kids.length cz] := by rw [hWd]; exact RowAt.old (RowAt.new _ _ _) _
  have hR2 : RowAt W (w.heap.size + 1) 75 #[.int .i64 0, .int .i64 0, .slice none 0 0] := by
    rw [hWd]
    have := RowAt.new (w.alloc (.cells #[.int .i64 t.kd, .int .i64 t.nm, .slice oz t.kids.length cz] 75)) 75 #[.int .i64 0, .int .i64 0, .slice none 0 0]
    rwa [World.size_alloc] at this
  have HHD := hideT' (ldHead_any t (.slice oz t.kids.length cz) (fun y => P y ∧ y < w.heap.size) W (LcIn.keep (w := w) hBW.size (fun y _ hl => hBW.block y hl) (fun y h hl => ⟨h, hl⟩) hz))
  obtain ⟨kd, hkd⟩ : ∃ kd, kd = t.kd := ⟨_, rfl⟩
  obtain ⟨nm, hnm⟩ : ∃ nm, nm = t.nm := ⟨_, rfl⟩
  obtain ⟨q, hq⟩ : ∃ q, q = t.kids.length := ⟨_, rfl⟩
  have hq2 : q ≤ 2 := by rw [hq]; cases t <;> simp [Lm.kids]
  rw [← hkd, ← hnm, ← hq] at hWd hR0 HHD
  rw [← hq] at HZ
  rw [← hkd, ← hnm, ← hq]
  have HKN := hideT' (And.intro hkd (And.intro hnm hq))
  have HRS := hideT' (And.intro hR0 hR2)
  have HBW := hideT' hBW
  have HWS := hideT' hWs
  clear IH ht hz hkd hnm hq hR0 hR2 hBW hWs
  unfold lcC at HHD ⊢
  go_enter Try.func59, Try.ntmps59
  go_wp2_with fail
  rw [← hWd]
  refine HHD.out.mono ?_
  rintro e W1 ⟨hans, hB1⟩
  have hs1 := hB1.size
  have HR1 : Hid (RowAt W1 w.heap.size 75 #[.int .i64 kd, .int .i64 nm, .slice oz q cz] ∧ RowAt W1 (w.heap.size + 1) 75 #[.int .i64 0, .int .i64 0, .slice none 0 0]) := ⟨HRS.out.1.below hB1 HRS.out.1.lt, HRS.out.2.below hB1 HRS.out.2.lt⟩
  have HBW1 : Hid (Below w.heap.size w W1) := HBW.out.trans (hB1.mono HBW.out.size)
  have hw3 : w.heap.size + 2 ≤ W1.heap.size := by have := HWS.out; omega
  clear hB1 hWd hs1 HHD
  cases hh : t.hd with
  | some s =>
    rw [hh] at hans
    obtain ⟨z5, rfl, hz5⟩ := hans
    obtain ⟨o5, c5, hzz5⟩ := hz5.form
    subst hzz5
    have HE := hideT' (nx_hd hh)
    have HZ5 : Hid (LcIn W1 (fun y => (P y ∧ y < w.heap.size) ∨ w.heap.size + 2 ≤ y) s (.slice o5 s.kids.length c5)) := LcIn.mono (fun y hy _ => by have := HWS.out; rcases hy with hy | hy; exact .inl hy; exact .inr (by omega)) hz5
    clear hz5 hh
    unfold lcC
    go_wp2_with (refine store_3 rfl 75 _ _ rfl rfl zero_lcT.2 (w.heap.size + 1) (lcC s.kd s.nm (.slice o5 s.kids.length c5)) rfl (lcC_one _ _ _ rfl) rfl rfl _ rfl (RowAt.old HR1.out.2 _) ?_; intro w9 hR9 hg9 hs9)
    simp only [World.size_alloc] at hs9
    refine bodyPost_ret (v := .tuple #[.agg (lcC s.kd s.nm (.slice o5 s.kids.length c5)), .bool true]) (res_lc_tmp Try.results59 _ _ (w.heap.size + 1) s.kd s.nm (.slice o5 s.kids.length c5) (.bool true) rfl rfl hR9) rfl ⟨⟨.slice o5 s.kids.length c5, by rw [HE.out.1, HE.out.2]; rfl, ?_⟩, (HBW1.out.alloc HBW1.out.size _).grown hg9 (by simp; omega) (by intro k hk; cases hk; omega)⟩
    rw [HE.out.1]
    refine LcIn.keep (w := W1) (by omega) (fun y hy hl => ?_) (fun y hy _ => by rcases hy with hy | hy; exact .inl hy.1; exact .inr (by omega)) HZ5.out
    rw [hg9.block y (by simp; omega) (by intro e; injection e with e; rcases hy with hy | hy <;> omega)]
    exact Below.heap_alloc _ _ _ hl
  | none =>
    rw [hh] at hans
    obtain ⟨kg, ng, og, mg, cg, rfl⟩ := hans
    have HE := hideT' (nx_no hh)
    clear hh
    obtain ⟨W3, hW3⟩ : ∃ W3, W3 = (W1.alloc (.cells #[.int .i64 kg, .int .i64 ng, .slice og mg cg] 75)).alloc (.cells #[.int .i64 kd, .int .i64 nm, .slice none 0 0] 75) := ⟨_, rfl⟩
    obtain ⟨ob, hob⟩ : ∃ ob, ob = W1.heap.size + 1 := ⟨_, rfl⟩
    have hRo : RowAt W3 ob 75 (lcC kd nm (.slice none 0 0)) := by
      rw [hW3, hob]
      have := RowAt.new (W1.alloc (.cells #[.int .i64 kg, .int .i64 ng, .slice og mg cg] 75)) 75 (lcC kd nm (.slice none 0 0))
      rwa [World.size_alloc] at this
    have HOB : Hid (w.heap.size + 3 ≤ ob ∧ ob < W3.heap.size) := ⟨by omega, hRo.lt⟩
    have HB3 : Hid (Below w.heap.size w W3) := by rw [hW3]; exact (HBW1.out.alloc HBW1.out.size _).alloc (by simp; omega) _
    have HR3 : Hid (RowAt W3 (w.heap.size + 1) 75 #[.int .i64 0, .int .i64 0, .slice none 0 0]) := by unfold Hid; rw [hW3]; exact RowAt.old (RowAt.old HR1.out.2 _) _
    have HOS := hideT' (OutZ.start (P := fun y => P y ∧ y < w.heap.size) hRo)
    have h0 := RowAt.old HR1.out.1 (.cells #[.int .i64 kg, .int .i64 ng, .slice og mg cg] 75)
    have r0 : (W1.alloc (.cells #[.int .i64 kg, .int .i64 ng, .slice og mg cg] 75)).cell? ⟨w.heap.size, 0, none⟩ = some (.int .i64 kd) := by rw [cell_of_row _ _ _ _ _ _ h0]; rfl
    have r1 : (W1.alloc (.cells #[.int .i64 kg, .int .i64 ng, .slice og mg cg] 75)).cell? ⟨w.heap.size, 1, none⟩ = some (.int .i64 nm) := by rw [cell_of_row _ _ _ _ _ _ h0]; rfl
    have h1 := RowAt.old h0 (.cells #[.int .i64 kd, .int .i64 nm, .slice none 0 0] 75)
    have r2 : ((W1.alloc (.cells #[.int .i64 kg, .int .i64 ng, .slice og mg cg] 75)).alloc (.cells #[.int .i64 kd, .int .i64 nm, .slice none 0 0] 75)).cell? ⟨w.heap.size, 2, none⟩ = some (.slice oz q cz) := by rw [cell_of_row _ _ _ _ _ _ h1]; rfl
    clear hRo hw3 h0 h1
    unfold lcC
    go_wp2_with fail
    rw [← hW3, ← hob]
    clear hW3 hob r0 r1 r2
    go_loopg [7, 25] q (fun gg dv i wr => ∃ (As Bs : List Lm) (z : Value) (ys : List Value) (d : Bool), gg = Bs.length ∧ Hid (t.kids = As ++ Bs) ∧ i = .int .i64 (As.length : Int) ∧ dv = .bool d ∧ Hid (d = dn false As) ∧ Hid (OutZ W3 wr ob kd nm (fun y => P y ∧ y < w.heap.size) (nxL false As) z ys) ∧ Hid (Below w.heap.size w wr))
    case atStart => exact ⟨[], t.kids, .slice none 0 0, [], false, by rw [HKN.out.2.2], rfl, rfl, rfl, rfl, HOS, HB3⟩
    case round =>
      obtain ⟨As, Bs, z, ys, d, hgg, HA, rfl, rfl, HD, HO, HB⟩ := hrel
      obtain ⟨j, hj⟩ : ∃ j, j = As.length := ⟨_, rfl⟩
      obtain ⟨ox, cx, hzx⟩ := own_formT HO.out.own
      rw [nxL_len, ← hj] at hzx
      subst hzx
      rw [← hj]
      have HJ := hideT' hj
      clear hj
      cases Bs with
      | nil =>
        have hjm : j = q := by rw [HJ.out, HKN.out.2.2, HA.out]; simp
        have hnl : ¬ (j : Int) < (q : Int) := by omega
        have HEK : Hid (t.nx.kids = nxL false As ∧ t.can = d) := ⟨by rw [HE.out.1, HA.out]; simp, by rw [HE.out.2.2.2, HA.out, HD.out]; simp⟩
        have hRz : RowAt wr (w.heap.size + 1) 75 #[.int .i64 0, .int .i64 0, .slice none 0 0] := HO.out.rowOf (by have := HOB.out; omega) HR3.out
        have hRo : RowAt wr ob 75 (lcC kd nm (.slice ox j cx)) := HO.out.row
        clear hgg hjm
        go_wp2_with (first | (refine wpList_load_row rfl 75 _ rfl ob rfl 75 (lcC kd nm (.slice ox j cx)) (0, 0) _ hRo Try.underlying75 rfl zero_lcT.2 ?_) | (refine store_3 rfl 75 _ _ rfl rfl zero_lcT.2 (w.heap.size + 1) (lcC kd nm (.slice ox j cx)) rfl (lcC_one _ _ _ rfl) rfl rfl _ rfl hRz ?_; intro w5 hR5 hg5 hs5))
        have hobl := HO.out.lt
        have hoh := HOB.out
        have hfin : LcIn w5 (fun y => P y ∨ w.heap.size ≤ y) t.nx (.slice ox j cx) := by
          have ho := HO.out
          rw [← HEK.out.1] at ho
          refine LcIn.keep (w := wr) (by omega) (fun y hy hl => hg5.block y hl (by intro e; injection e with e; rcases hy with hy | hy <;> omega)) (fun y hy _ => ?_) ho.done
          rcases hy with hy | hy
          · exact .inl hy.1.1
          · exact .inr (by omega)
        exact bodyPost_ret (v := .tuple #[.agg (lcC kd nm (.slice ox j cx)), .bool d]) (res_lc_tmp Try.results59 _ _ (w.heap.size + 1) kd nm (.slice ox j cx) (.bool d) rfl rfl hR5) rfl ⟨⟨.slice ox j cx, by rw [HE.out.2.1, HE.out.2.2.1, HEK.out.2, HKN.out.1, HKN.out.2.1]; rfl, hfin⟩, HB.out.grown hg5 (by have := HB.out.size; omega) (by intro k hk; cases hk; omega)⟩
      | cons T Bs =>
      have hil : (j : Int) < (q : Int) := by rw [HKN.out.2.2, HA.out, List.length_append, ← HJ.out]; simp; omega
      have hkj : t.kids[j]? = some T := by rw [HA.out, HJ.out]; simp
      have hTm : T ∈ t.kids := List.mem_of_getElem? hkj
      have hzr : LcIn wr (fun b => P b ∧ b < w.heap.size) t (.slice oz q cz) := LcIn.keep (w := w) HB.out.size (fun y hy hl => HB.out.block y hl) (fun y hy hl => ⟨hy, hl⟩) HZ.out
      obtain ⟨o', c', e', hpart⟩ := hzr.parts
      injection e' with e1 e2 e3
      subst e1
      clear e2 e3
      obtain ⟨g, z1, hoz, hg, ⟨k0, k1, k2⟩, hz1⟩ := hpart j T hkj
      subst hoz
      have hg1 := hg.1
      obtain ⟨oz1, cz1, hzz1'⟩ := hz1.form
      subst hzz1'
      obtain ⟨i0, hi, hzz0, hzz1, hzz2⟩ := info_parts info_lcT
      obtain ⟨W2, hW2⟩ : ∃ W2, W2 = wr.alloc (.cells #[.int .i64 T.kd, .int .i64 T.nm, .slice oz1 T.kids.length cz1] 75) := ⟨_, rfl⟩
      have HB2 : Hid (Below wr.heap.size wr (wr.alloc (.cells #[.int .i64 T.kd, .int .i64 T.nm, .slice oz1 T.kids.length cz1] 75))) := (Below.refl _ _).alloc (Nat.le_refl _) _
      have HS2 : Hid (W2.heap.size = wr.heap.size + 1) := by unfold Hid; rw [hW2]; simp
      have HZ1 := hideT' hz1
      have HIHX : Hid (∀ w', LcIn w' (fun b => P b ∧ b < w.heap.size) T (.slice oz1 T.kids.length cz1) → Calls Try.prog 59 #[.agg (lcC T.kd T.nm (.slice oz1 T.kids.length cz1))] w' fun e w'' => (∃ z', e = .returned (.tuple #[.agg (lcC T.nx.kd T.nx.nm z'), .bool T.can]) ∧ LcIn w'' (fun y => (P y ∧ y < w.heap.size) ∨ w'.heap.size ≤ y) T.nx z') ∧ Below w'.heap.size w' w'') := fun w' h' => HIH.out T.sz (by have := HTN.out; have := Lm.kids_lt hTm; omega) T (Nat.le_refl _) _ _ w' h'
      clear hzr hpart hz1 hkj hTm
      cases d with
      | true =>
        clear hW2
        have HSN : Hid (nxL false (As ++ [T]) = nxL false As ++ [T]) := by unfold Hid; rw [nxL_snoc, ← HD.out]; rfl
        have HDN : Hid (true = dn false (As ++ [T])) := by unfold Hid; rw [dn_snoc, ← HD.out]; rfl
        have HOX : Hid (OutZ W3 (wr.alloc (.cells #[.int .i64 T.kd, .int .i64 T.nm, .slice oz1 T.kids.length cz1] 75)) ob kd nm (fun y => P y ∧ y < w.heap.size) (nxL false As) (.slice ox j cx) ys) := HO.out.below HB2.out
        have HPX : Hid (LcIn (wr.alloc (.cells #[.int .i64 T.kd, .int .i64 T.nm, .slice oz1 T.kids.length cz1] 75)) (OutP W3 ob (fun y => P y ∧ y < w.heap.size) (.slice ox j cx)) T (.slice oz1 T.kids.length cz1)) := HO.out.part (Nat.le_refl _) (LcIn.below HB2.out HZ1.out) (fun y hy _ => .inl ⟨hy, by have := HOB.out; omega⟩)
        have HBX : Hid (Below w.heap.size w (wr.alloc (.cells #[.int .i64 T.kd, .int .i64 T.nm, .slice oz1 T.kids.length cz1] 75))) := HB.out.trans (HB2.out.mono HB.out.size)
        have r3 : (wr.alloc (.cells #[.int .i64 T.kd, .int .i64 T.nm, .slice oz1 T.kids.length cz1] 75)).cell? ⟨ob, 2, none⟩ = some (.slice ox j cx) := by rw [cell_of_row _ _ _ _ _ _ HOX.out.row]; rfl
        have HLC : Hid (∀ jj uu, (lcL T.kd T.nm (.slice oz1 T.kids.length cz1))[jj]? = some uu → ((wr.alloc (.cells #[.int .i64 T.kd, .int .i64 T.nm, .slice oz1 T.kids.length cz1] 75)).alloc (.cells #[.int .i64 T.kd, .int .i64 T.nm, .slice oz1 T.kids.length cz1] 75)).cell? ((⟨wr.heap.size + 1, 0, none⟩ : Addr).add jj) = some uu) := by
          have := lc_cells (wr.alloc (.cells #[.int .i64 T.kd, .int .i64 T.nm, .slice oz1 T.kids.length cz1] 75)) T.kd T.nm (.slice oz1 T.kids.length cz1)
          rw [World.size_alloc] at this
          exact this
        have HOWN : Hid ((wr.alloc (.cells #[.int .i64 T.kd, .int .i64 T.nm, .slice oz1 T.kids.length cz1] 75)).ownsRow W3.heap.size 75 3 (.slice ox j cx) j ys) := by have := HOX.out.own; rwa [nxL_len, ← HJ.out] at this
        have HROW : Hid (RowAt ((wr.alloc (.cells #[.int .i64 T.kd, .int .i64 T.nm, .slice oz1 T.kids.length cz1] 75)).alloc (.cells #[.int .i64 T.kd, .int .i64 T.nm, .slice oz1 T.kids.length cz1] 75)) ob 75 (lcC kd nm (.slice ox j cx))) := RowAt.old HOX.out.row _
        have HNB : Hid (∀ b, (Value.slice ox j cx).ownBlock = some b → W3.heap.size ≤ b) := fun b e => (HOWN.out.lt b e).1
        have hb3 : W3.heap.size ≤ (wr.alloc (.cells #[.int .i64 T.kd, .int .i64 T.nm, .slice oz1 T.kids.length cz1] 75)).heap.size := HOX.out.size
        go_wp2_with (first | (at_builtin; refine append_own3 _ rfl _ _ 73 rfl W3.heap.size 75 i0 (.agg #[.int .i64 0, .int .i64 0, .slice none 0 0]) 3 40 Try.underlying73 hi hzz0 hzz1 hzz2 rfl (by decide) (.slice ox j cx) j ys rfl (HOWN.out.alloc _) ⟨wr.heap.size + 1, 0, none⟩ 1 1 (lcL T.kd T.nm (.slice oz1 T.kids.length cz1)) rfl rfl HLC.out (lcL_one _ _ _ rfl) (by omega) (by unfold maxLen; omega) (by omega) (by have := HOX.out.size; simp at this ⊢; omega) ?_; intro v6 w6 hv6 hg6 hb6; obtain ⟨o6, c6, hv6e⟩ := own_formT hv6; subst hv6e; have hR6 : RowAt w6 ob 75 (lcC kd nm (.slice ox j cx)) := HROW.out.grown hg6 (fun e => by have := HNB.out _ e.symm; have := HOB.out.2; omega); have HV6 := hideT' hv6; have HG6 := hideT' hg6; have HB6 := hideT' hb6; clear hv6 hg6 hb6) | (refine store_at rfl 73 _ _ rfl rfl ob 2 (.slice o6 (j + 1) c6) rfl rfl one_sllc rfl 75 (lcC kd nm (.slice ox j cx)) hR6 (show 2 < 3 by omega) ?_; intro w7 hR7 hg7 hs7))
        have HEND : Hid (OutZ W3 w7 ob kd nm (fun y => P y ∧ y < w.heap.size) (nxL false (As ++ [T])) (.slice o6 (j + 1) c6) (ys ++ lcL T.kd T.nm (.slice oz1 T.kids.length cz1))) := by
          unfold Hid
          rw [HSN.out]
          refine OutZ.push HOX.out HPX.out ?_ HG6.out HB6.out hR7 hg7
          rw [nxL_len, ← HJ.out]
          exact HV6.out
        have HA2 : Hid (t.kids = (As ++ [T]) ++ Bs) := by unfold Hid; rw [HA.out]; simp
        have HB7 : Hid (Below w.heap.size w w7) := ((HBX.out.alloc HBX.out.size _).grown HG6.out (by have := HBX.out.size; simp at this ⊢; omega) (fun k e => by have := HNB.out k e; have := HOB.out; omega)).grown hg7 (by have := HG6.out.size; have := HBX.out.size; simp at *; omega) (by intro k hk; cases hk; have := HOB.out; omega)
        clear hR7 hg7 hs7 hR6
        go_wp2
        go_roundg Bs.length
        case measure => first | omega | (rw [hgg]; simp)
        case rel => exact ⟨As ++ [T], Bs, .slice o6 (j + 1) c6, _, true, rfl, HA2, by rw [List.length_append, ← HJ.out]; go_num, rfl, HDN, HEND, HB7⟩
      | false =>
        have HSN : Hid (nxL false (As ++ [T]) = nxL false As ++ [T.nx]) := by unfold Hid; rw [nxL_snoc, ← HD.out]; rfl
        have HDN : Hid (T.can = dn false (As ++ [T])) := by unfold Hid; rw [dn_snoc, ← HD.out]; rfl
        have HCALL := hideT' (HIHX.out W2 (by rw [hW2]; exact LcIn.below HB2.out HZ1.out))
        have HB2 : Hid (Below wr.heap.size wr W2) := by unfold Hid; rw [hW2]; exact HB2.out
        have hRk : RowAt W2 wr.heap.size 75 #[.int .i64 T.kd, .int .i64 T.nm, .slice oz1 T.kids.length cz1] := by rw [hW2]; exact RowAt.new wr _ _
        have HRK2 := hideT' hRk
        clear hRk
        unfold lcC at HCALL
        go_wp2_with fail
        rw [← hW2]
        refine HCALL.out.mono ?_
        rintro e w9 ⟨⟨z9, rfl, hz9⟩, hB9⟩
        obtain ⟨o9, c9, hzz9⟩ := hz9.form
        subst hzz9
        have HB29 : Hid (Below wr.heap.size wr w9) := HB2.out.trans (hB9.mono HB2.out.size)
        have HRK : Hid (RowAt w9 wr.heap.size 75 #[.int .i64 T.kd, .int .i64 T.nm, .slice oz1 T.kids.length cz1]) := HRK2.out.below hB9 HRK2.out.lt
        have HZ9 := hideT' hz9
        have hs9 := hB9.size
        have hs9' : wr.heap.size + 1 ≤ w9.heap.size := by have := HS2.out; omega
        have HX : Hid (∀ wx, RowAt wx wr.heap.size 75 (lcC T.nx.kd T.nx.nm (.slice o9 T.nx.kids.length c9)) → w9.grownBy wx (some wr.heap.size) → (Hid (OutZ W3 wx ob kd nm (fun y => P y ∧ y < w.heap.size) (nxL false As) (.slice ox j cx) ys)) ∧ (Hid (LcIn wx (OutP W3 ob (fun y => P y ∧ y < w.heap.size) (.slice ox j cx)) T.nx (.slice o9 T.nx.kids.length c9))) ∧ (Hid (Below w.heap.size w wx)) ∧ (wx.cell? ⟨ob, 2, none⟩ = some (.slice ox j cx)) ∧ (wx.cell? ⟨wr.heap.size, 0, none⟩ = some (.int .i64 T.nx.kd)) ∧ (wx.cell? ⟨wr.heap.size, 1, none⟩ = some (.int .i64 T.nx.nm)) ∧ (wx.cell? ⟨wr.heap.size, 2, none⟩ = some (.slice o9 T.nx.kids.length c9)) ∧ (Hid (∀ jj uu, (lcL T.nx.kd T.nx.nm (.slice o9 T.nx.kids.length c9))[jj]? = some uu → (wx.alloc (.cells #[.int .i64 T.nx.kd, .int .i64 T.nx.nm, .slice o9 T.nx.kids.length c9] 75)).cell? ((⟨wx.heap.size, 0, none⟩ : Addr).add jj) = some uu)) ∧ (Hid (wx.ownsRow W3.heap.size 75 3 (.slice ox j cx) j ys)) ∧ (Hid (RowAt (wx.alloc (.cells #[.int .i64 T.nx.kd, .int .i64 T.nx.nm, .slice o9 T.nx.kids.length c9] 75)) ob 75 (lcC kd nm (.slice ox j cx)))) ∧ (Hid (∀ b, (Value.slice ox j cx).ownBlock = some b → W3.heap.size ≤ b)) ∧ W3.heap.size ≤ wx.heap.size) := by
          intro wx hRx hgx
          have hsx := hgx.size
          have HOX : Hid (OutZ W3 wx ob kd nm (fun y => P y ∧ y < w.heap.size) (nxL false As) (.slice ox j cx) ys) := out_keep HO.out (fun b hb => by rw [hgx.block b (by have := HB29.out.size; omega) (by intro e; injection e with e; omega)]; exact HB29.out.block b hb) (by have := HB29.out.size; omega)
          have HPX : Hid (LcIn wx (OutP W3 ob (fun y => P y ∧ y < w.heap.size) (.slice ox j cx)) T.nx (.slice o9 T.nx.kids.length c9)) := HO.out.part (N := wr.heap.size + 1) (by omega) (LcIn.keep (w := w9) (Q := fun y => (P y ∧ y < w.heap.size) ∨ wr.heap.size + 1 ≤ y) (by omega) (fun y hy hl => hgx.block y hl (by intro e; injection e with e; rcases hy with hy | hy; (have := HB.out.size; omega); (have := HS2.out; omega))) (fun y hy _ => by rcases hy with hy | hy; exact .inl hy; exact .inr (by have := HS2.out; omega)) HZ9.out) (fun y hy _ => by rcases hy with hy | hy; exact .inl ⟨hy, by have := HOB.out; omega⟩; exact .inr hy)
          have HBX : Hid (Below w.heap.size w wx) := (HB.out.trans (HB29.out.mono HB.out.size)).grown hgx (by have := HB.out.size; have := HB29.out.size; omega) (by intro k hk; cases hk; exact HB.out.size)
          have r3 : wx.cell? ⟨ob, 2, none⟩ = some (.slice ox j cx) := (by rw [cell_of_row _ _ _ _ _ _ HOX.out.row]; rfl)
          have q0 : wx.cell? ⟨wr.heap.size, 0, none⟩ = some (.int .i64 T.nx.kd) := (by rw [cell_of_row _ _ _ _ _ _ hRx]; rfl)
          have q1 : wx.cell? ⟨wr.heap.size, 1, none⟩ = some (.int .i64 T.nx.nm) := (by rw [cell_of_row _ _ _ _ _ _ hRx]; rfl)
          have q2 : wx.cell? ⟨wr.heap.size, 2, none⟩ = some (.slice o9 T.nx.kids.length c9) := (by rw [cell_of_row _ _ _ _ _ _ hRx]; rfl)
          have HLC : Hid (∀ jj uu, (lcL T.nx.kd T.nx.nm (.slice o9 T.nx.kids.length c9))[jj]? = some uu → (wx.alloc (.cells #[.int .i64 T.nx.kd, .int .i64 T.nx.nm, .slice o9 T.nx.kids.length c9] 75)).cell? ((⟨wx.heap.size, 0, none⟩ : Addr).add jj) = some uu) := by
            have := lc_cells wx T.nx.kd T.nx.nm (.slice o9 T.nx.kids.length c9)
            exact this
          have HOWN : Hid (wx.ownsRow W3.heap.size 75 3 (.slice ox j cx) j ys) := by have := HOX.out.own; rwa [nxL_len, ← HJ.out] at this
          have HROW : Hid (RowAt (wx.alloc (.cells #[.int .i64 T.nx.kd, .int .i64 T.nx.nm, .slice o9 T.nx.kids.length c9] 75)) ob 75 (lcC kd nm (.slice ox j cx))) := RowAt.old HOX.out.row _
          have HNB : Hid (∀ b, (Value.slice ox j cx).ownBlock = some b → W3.heap.size ≤ b) := fun b e => (HOWN.out.lt b e).1
          have hb3 : W3.heap.size ≤ wx.heap.size := HOX.out.size
          exact ⟨HOX, HPX, HBX, r3, q0, q1, q2, HLC, HOWN, HROW, HNB, hb3⟩
        clear hz9 hB9 hW2 k0 k1 k2
        go_wp2_with (first | (at_builtin; refine append_own3 _ rfl _ _ 73 rfl W3.heap.size 75 i0 (.agg #[.int .i64 0, .int .i64 0, .slice none 0 0]) 3 40 Try.underlying73 hi hzz0 hzz1 hzz2 rfl (by decide) (.slice ox j cx) j ys rfl (HOWN.out.alloc _) ⟨wx.heap.size, 0, none⟩ 1 1 (lcL T.nx.kd T.nx.nm (.slice o9 T.nx.kids.length c9)) rfl rfl HLC.out (lcL_one _ _ _ rfl) (by omega) (by unfold maxLen; omega) (by omega) (by have := HOX.out.size; simp at this ⊢; omega) ?_; intro v6 w6 hv6 hg6 hb6; obtain ⟨o6, c6, hv6e⟩ := own_formT hv6; subst hv6e; have hR6 : RowAt w6 ob 75 (lcC kd nm (.slice ox j cx)) := HROW.out.grown hg6 (fun e => by have := HNB.out _ e.symm; have := HOB.out.2; omega); have HV6 := hideT' hv6; have HG6 := hideT' hg6; have HB6 := hideT' hb6; clear hv6 hg6 hb6) | (refine store_at rfl 73 _ _ rfl rfl ob 2 (.slice o6 (j + 1) c6) rfl rfl one_sllc rfl 75 (lcC kd nm (.slice ox j cx)) hR6 (show 2 < 3 by omega) ?_; intro w7 hR7 hg7 hs7) | (refine store_3 rfl 75 _ _ rfl rfl zero_lcT.2 wr.heap.size (lcC T.nx.kd T.nx.nm (.slice o9 T.nx.kids.length c9)) rfl (lcC_one _ _ _ rfl) rfl rfl #[.int .i64 T.kd, .int .i64 T.nm, .slice oz1 T.kids.length cz1] rfl HRK.out ?_; intro wx hRx hgx hsx0; obtain ⟨HOX, HPX, HBX, r3, q0, q1, q2, HLC, HOWN, HROW, HNB, hb3⟩ := HX.out wx hRx hgx; clear hRx hgx hsx0))
        have HEND : Hid (OutZ W3 w7 ob kd nm (fun y => P y ∧ y < w.heap.size) (nxL false (As ++ [T])) (.slice o6 (j + 1) c6) (ys ++ lcL T.nx.kd T.nx.nm (.slice o9 T.nx.kids.length c9))) := by
          unfold Hid
          rw [HSN.out]
          refine OutZ.push HOX.out HPX.out ?_ HG6.out HB6.out hR7 hg7
          rw [nxL_len, ← HJ.out]
          exact HV6.out
        have HA2 : Hid (t.kids = (As ++ [T]) ++ Bs) := by unfold Hid; rw [HA.out]; simp
        have HB7 : Hid (Below w.heap.size w w7) := ((HBX.out.alloc HBX.out.size _).grown HG6.out (by have := HBX.out.size; simp at this ⊢; omega) (fun k e => by have := HNB.out k e; have := HOB.out; omega)).grown hg7 (by have := HG6.out.size; have := HBX.out.size; simp at *; omega) (by intro k hk; cases hk; have := HOB.out; omega)
        clear hR7 hg7 hs7 hR6
        go_wp2
        go_roundg Bs.length
        case measure => first | omega | (rw [hgg]; simp)
        case rel => exact ⟨As ++ [T], Bs, .slice o6 (j + 1) c6, _, T.can, rfl, HA2, by rw [List.length_append, ← HJ.out]; go_num, rfl, HDN, HEND, HB7⟩
theorem ldStep_all : ∀ N, LsC N := by
  intro N
  induction N using Nat.strongRecOn with
  | _ N IH => exact ldStep_step N IH
end Go.Proofs.Ytnnhedncdpfiaaa.CB

/-
  What both StepComb answer.
-/
namespace Go.Proofs.Ytnnhedncdpfiaaa.CB
open Go.RowKit BL
set_option linter.unusedVariables false

/-- Contracting, where the combinator is not too great. -/
def conS (s : Lm) : Lm := if s.sz ≤ 400 then con s else s
theorem con_sz (s : Lm) : (con s).sz ≤ 2 * s.sz := by
  unfold con
  cases h : s.hd with
  | none => simp only [Option.getD_none]; omega
  | some r => simp only [Option.getD_some]; exact Lm.hd_sz h
theorem conS_sz (s : Lm) : (conS s).sz ≤ 400 + s.sz := by
  unfold conS
  split
  · have := con_sz s; omega
  · omega
theorem chgAt_conS : ∀ (t : Lm) (k : Nat), t.sz ≤ 400 → Lm.chgAt conS t k = Lm.chgAt con t k
  | .var n, 0, h => by rw [Lm.chgAt, Lm.chgAt, conS, if_pos h]
  | .var n, k + 1, h => by rw [Lm.chgAt, Lm.chgAt]
  | .app s t, 0, h => by rw [Lm.chgAt, Lm.chgAt, conS, if_pos h]
  | .app s t, k + 1, h => by simp only [Lm.sz] at h; rw [Lm.chgAt, Lm.chgAt, chgAt_conS s k (by omega), chgAt_conS t (k - s.sz) (by omega)]
theorem contractedS_any : ChgOk 62 Lm.isR conS 400 := fun s b P w hT hp hs hb => by
  have := contracted_any s b P w hT hp hs hb
  rw [show conS s = con s by unfold conS; rw [if_pos hs]]
  exact this
/-- What changedAt makes of the node that firstRedex gives. -/
theorem changedCon_any (t s : Lm) (b k : Nat) (P : Nat → Prop) (w : World) (hT : TrIn w P t b) (hsub : t.subAt k = some s) (hred : s.isR = true) (hsz : t.sz ≤ 400) (hbd : t.bd) :
    Calls Try.prog 61 #[.pointer (some ⟨b, 0, none⟩), .int .i64 (k : Int), .func (.func 62) #[] #[]] w fun e w' => (∃ b', e = .returned (.pointer (some ⟨b', 0, none⟩)) ∧ TrIn w' (fun x => P x ∨ w.heap.size ≤ x) (Lm.chgAt con t k) b') ∧ Below w.heap.size w w' := by
  have := changedAt_all 62 Lm.isR conS 400 400 call_contracted conS_sz (by omega) (by omega) contractedS_any t.sz t (Nat.le_refl _) s b k P w hT hsub hred hsz hbd
  rw [chgAt_conS t k hsz] at this
  exact this
def StT (l : List Nd) : Option Lm := match readP' l with
  | some t => t.stp
  | none => none
theorem StT_l {l : List Nd} (h : readP' l = none) : StT l = none := by unfold StT; rw [h]
theorem StT_r {l : List Nd} {t : Lm} (h : readP' l = some t) : StT l = t.stp := by unfold StT; rw [h]
theorem StT_no {l : List Nd} {t : Lm} (h : readP' l = some t) (h2 : t.can = false) : StT l = none := by
  rw [StT_r h]
  unfold Lm.can at h2
  cases hs : t.stp with
  | none => rfl
  | some r => rw [hs] at h2; cases h2
theorem StT_ok {l : List Nd} {t : Lm} (h : readP' l = some t) (h2 : t.can = true) : StT l = some t.nx := by
  rw [StT_r h]
  unfold Lm.can at h2
  unfold Lm.nx
  cases hs : t.stp with
  | none => rw [hs] at h2; cases h2
  | some r => rfl
set_option maxHeartbeats 4000000 in
theorem implStepComb_any (l : List Nd) (v : Value) (w : World) (hv : NdIn w v l) (hl : l.length ≤ 1048576) :
    Calls Try.prog 34 #[v] w fun e w' => TOut w (StT l) e w' ∧ Below w.heap.size w w' := by
  have HC := hideT' (readTree_any l v w hv hl)
  clear hv
  go_enter Try.func34, Try.ntmps34
  go_wp2_with fail
  refine HC.out.mono ?_
  rintro e w1 ⟨hans, hB1⟩
  have HB1 := hideT' hB1
  clear hB1
  rcases hans with ⟨p, rfl, hn⟩ | ⟨t, b, rfl, hr, hT⟩
  · have HN := hideT' (StT_l hn)
    clear hn
    go_wp2
    go_ret2
    exact ⟨TOut.bad HN.out, HB1.out⟩
  · have f1 := readP'_facts hr
    have HC2 := hideT' (firstRedex_any t b _ w1 hT (by omega))
    have HT := hideT' hT
    have HR := hideT' hr
    have HF1 := hideT' f1
    clear hT hr f1
    go_wp2_with fail
    refine HC2.out.mono ?_
    rintro e w2 ⟨⟨k, rfl, hk⟩, hB2⟩
    have HB2 : Hid (Below w.heap.size w w2) := HB1.out.trans (hB2.mono HB1.out.size)
    have HT2 : Hid (TrIn w2 (fun _ => True) t b) := TrIn.keep (w := w1) hB2.size (fun x _ hx => hB2.block x hx) (fun _ _ _ => trivial) HT.out
    clear hB2
    obtain ⟨q, hq⟩ : ∃ q, q = t.frst.isSome := ⟨_, rfl⟩
    rw [← hq] at hk ⊢
    cases q with
    | true =>
      have hf := hk rfl
      obtain ⟨s, hs1, hs2⟩ := Lm.frst_sub hf
      have HN : Hid (StT l = some (Lm.chgAt con t k)) := by unfold Hid; rw [StT_r HR.out, Lm.stp_frst, hf]; rfl
      have HC4 := hideT' (changedCon_any t s b k _ w2 HT2.out hs1 hs2 (by have := HF1.out.2.1; omega) (Lm.ok_bd HF1.out.2.2.2.1))
      have HSZ : Hid ((Lm.chgAt con t k).sz ≤ 1000000) := by
        unfold Hid
        rw [← chgAt_conS t k (by have := HF1.out.2.1; omega)]
        have := chgAt_szle conS 400 conS_sz t k
        have := HF1.out.2.1
        omega
      clear hk hq hf hs1 hs2
      go_wp2_with fail
      refine HC4.out.mono ?_
      rintro e w4 ⟨⟨b4, rfl, hT4⟩, hB4⟩
      have HB4 : Hid (Below w.heap.size w w4) := HB2.out.trans (hB4.mono HB2.out.size)
      have HC5 := hideT' (tellTree_any _ b4 _ w4 hT4 HSZ.out)
      clear hT4 hB4
      go_wp2_with fail
      refine HC5.out.mono ?_
      rintro e w5 ⟨hT5, hB5⟩
      obtain ⟨u5, rfl, hO5⟩ := hT5
      have HF : Hid (TOut w (StT l) (.returned (.tuple #[u5, .bool (Lm.chgAt con t k).good])) w5 ∧ Below w.heap.size w w5) := ⟨ToldT.out (t := Lm.chgAt con t k) ⟨u5, rfl, hO5⟩ HB4.out.size HN.out, HB4.out.trans (hB5.mono HB4.out.size)⟩
      obtain ⟨q, hq⟩ : ∃ q, q = (Lm.chgAt con t k).good := ⟨_, rfl⟩
      rw [← hq] at HF ⊢
      clear hq hO5 hB5
      go_wp2
      go_ret2
      exact HF.out
    | false =>
      have HN : Hid (StT l = none) := by
        unfold Hid
        rw [StT_r HR.out, Lm.stp_frst]
        cases hf : t.frst with
        | none => rfl
        | some k => rw [hf] at hq; cases hq
      clear hk hq
      go_wp2
      go_ret2
      exact ⟨TOut.bad HN.out, HB2.out⟩
set_option maxHeartbeats 4000000 in
theorem specStepComb_any (l : List Nd) (v : Value) (w : World) (hv : NdIn w v l) (hl : l.length ≤ 1048576) :
    Calls Try.prog 33 #[v] w fun e w' => TOut w (StT l) e w' ∧ Below w.heap.size w w' := by
  have hz0 := zero_lcT.1
  have HV := hideT' hv
  have HC := hideT' (specGoodComb_any l v w hv hl)
  clear hv
  cases hr : readP' l with
  | none =>
    have HN := hideT' (StT_l hr)
    rw [goodS_none hr] at HC
    clear hr
    go_enter Try.func33, Try.ntmps33
    go_wp2_with fail
    refine HC.out.mono ?_
    rintro e w1 ⟨rfl, hB1⟩
    go_wp2
    go_ret2
    exact ⟨TOut.bad HN.out, hB1⟩
  | some t =>
    rw [goodS_some hr] at HC
    have HR := hideT' hr
    clear hr
    go_enter Try.func33, Try.ntmps33
    go_wp2_with fail
    refine HC.out.mono ?_
    rintro e w2 ⟨rfl, hB2⟩
    have HB2 := hideT' hB2
    clear hB2
    have HC3 := hideT' (lcTree_whole l t v w2 (HV.out.below HB2.out) HR.out)
    go_wp2_with fail
    refine HC3.out.mono ?_
    rintro e w4 ⟨⟨z4, rfl, hz4⟩, hB4⟩
    have HB4 : Hid (Below w.heap.size w w4) := HB2.out.trans (hB4.mono HB2.out.size)
    have HC5 := hideT' (ldStep_all t.sz t (Nat.le_refl _) z4 _ w4 hz4)
    clear hB4 hz4
    go_wp2_with fail
    refine HC5.out.mono ?_
    rintro e w6 ⟨⟨z6, rfl, hz6⟩, hB6⟩
    obtain ⟨o6, c6, hzz6⟩ := hz6.form
    subst hzz6
    have HB6 : Hid (Below w.heap.size w w6) := HB4.out.trans (hB6.mono HB4.out.size)
    obtain ⟨T, hTe⟩ : ∃ T, T = t.nx := ⟨_, rfl⟩
    obtain ⟨q, hq⟩ : ∃ q, q = t.can := ⟨_, rfl⟩
    rw [← hTe] at hz6 ⊢
    rw [← hq]
    cases q with
    | false =>
      have HN := hideT' (StT_no HR.out hq.symm)
      have HX : Hid (Below w.heap.size w (w6.alloc (.cells #[.int .i64 T.kd, .int .i64 T.nm, .slice o6 T.kids.length c6] 75))) := HB6.out.alloc HB6.out.size _
      clear hq hTe hz6 hB6
      unfold lcC
      go_wp2
      go_ret2
      exact ⟨TOut.bad HN.out, HX.out⟩
    | true =>
      have HN : Hid (StT l = some T) := by unfold Hid; rw [hTe]; exact StT_ok HR.out hq.symm
      obtain ⟨W, hWd⟩ : ∃ W, W = w6.alloc (.cells #[.int .i64 T.kd, .int .i64 T.nm, .slice o6 T.kids.length c6] 75) := ⟨_, rfl⟩
      have hBW : Below w6.heap.size w6 W := by rw [hWd]; exact (Below.refl _ _).alloc (Nat.le_refl _) _
      have HBW : Hid (Below w.heap.size w W) := HB6.out.trans (hBW.mono HB6.out.size)
      have HC6 := hideT' (lcTold_any T (.slice o6 T.kids.length c6) _ W (LcIn.below hBW hz6))
      unfold lcC at HC6 ⊢
      clear hq hTe hB6 hz6 hBW
      go_wp2_with fail
      rw [← hWd]
      refine HC6.out.mono ?_
      rintro e w7 ⟨hT7, hB7⟩
      obtain ⟨u7, rfl, hO7⟩ := hT7
      have HF : Hid (TOut w (StT l) (.returned (.tuple #[u7, .bool T.good])) w7 ∧ Below w.heap.size w w7) := ⟨ToldT.out (t := T) ⟨u7, rfl, hO7⟩ HBW.out.size HN.out, HBW.out.trans (hB7.mono HBW.out.size)⟩
      obtain ⟨q, hq⟩ : ∃ q, q = T.good := ⟨_, rfl⟩
      rw [← hq] at HF ⊢
      clear hq hO7 hB7 hWd
      go_wp2
      go_ret2
      exact HF.out
end Go.Proofs.Ytnnhedncdpfiaaa.CB
