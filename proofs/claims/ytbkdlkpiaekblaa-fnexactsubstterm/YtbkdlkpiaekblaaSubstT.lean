/-
  What both SubstTerm answer.
-/
import Derived.Test.YtbkdlkpiaekblaaTold
import Derived.Test.YtbkdlkpiaekblaaSpecSubst
import Derived.Test.YtbkdlkpiaekblaaImplSub
namespace Go.Proofs.Ytbkdlkpiaekblaa
open Go.RowKit BL
set_option linter.unusedVariables false

def SbT (l : List Nd) (k : Int) (s : List Nd) : Option Lm := match readP' l, readP' s with
  | some t, some p => if 0 ≤ k ∧ k ≤ 99 then some (t.sub k p 0) else none
  | _, _ => none
def SbB (l : List Nd) (k : Int) (s : List Nd) : Bool := toldB (SbT l k s)
def SbL (l : List Nd) (k : Int) (s : List Nd) : List (Int × Int × Int) := toldL (SbT l k s)
theorem SbL_len (l : List Nd) (k : Int) (s : List Nd) : (SbL l k s).length ≤ 1048576 := toldL_len _
theorem SbT_l {l : List Nd} {k : Int} {s : List Nd} (h : readP' l = none) : SbT l k s = none := by unfold SbT; rw [h]
theorem SbT_s {l : List Nd} {k : Int} {s : List Nd} (h : readP' s = none) : SbT l k s = none := by unfold SbT; rw [h]; cases readP' l <;> rfl
theorem SbT_k {l : List Nd} {k : Int} {s : List Nd} (h : ¬ (0 ≤ k ∧ k ≤ 99)) : SbT l k s = none := by unfold SbT; cases readP' l <;> cases readP' s <;> simp [h]
theorem SbT_ok {l : List Nd} {k : Int} {s : List Nd} {t p : Lm} (h1 : readP' l = some t) (h2 : readP' s = some p) (h : 0 ≤ k ∧ k ≤ 99) : SbT l k s = some (t.sub k p 0) := by unfold SbT; rw [h1, h2]; simp [h]
set_option maxHeartbeats 4000000 in
theorem implSubstTerm_any (l : List Nd) (k : Int) (s : List Nd) (v vs : Value) (w : World) (hv : NdIn w v l) (hvs : NdIn w vs s) (hl : l.length ≤ 1048576) (hls : s.length ≤ 1048576) :
    Calls Try.prog 28 #[v, .int .i64 k, vs] w fun e w' => TOut w (SbT l k s) e w' ∧ Below w.heap.size w w' := by
  have HVS := hideT' hvs
  have HC := hideT' (readTree_any l v w hv hl)
  clear hv hvs
  go_enter Try.func28, Try.ntmps28
  go_wp2_with fail
  refine HC.out.mono ?_
  rintro e w1 ⟨hans, hB1⟩
  have HC2 := hideT' (readTree_any s vs w1 (HVS.out.below hB1) hls)
  have HB1 := hideT' hB1
  clear hB1
  rcases hans with ⟨p, rfl, hn⟩ | ⟨t, b, rfl, hr, hT⟩
  · have HN := hideT' (SbT_l (k := k) (s := s) hn)
    clear hn
    go_wp2_with fail
    refine HC2.out.mono ?_
    rintro e w2 ⟨hans2, hB2⟩
    have HB2 : Hid (Below w.heap.size w w2) := HB1.out.trans (hB2.mono HB1.out.size)
    rcases hans2 with ⟨p2, rfl, hn2⟩ | ⟨t2, b2, rfl, hr2, hT2⟩
    · clear hn2 hB2
      go_wp2
      go_ret2
      exact ⟨TOut.bad HN.out, HB2.out⟩
    · clear hr2 hT2 hB2
      go_wp2
      go_ret2
      exact ⟨TOut.bad HN.out, HB2.out⟩
  · have HT := hideT' hT
    have HR := hideT' hr
    clear hT hr
    go_wp2_with fail
    refine HC2.out.mono ?_
    rintro e w2 ⟨hans2, hB2⟩
    have HB2 : Hid (Below w.heap.size w w2) := HB1.out.trans (hB2.mono HB1.out.size)
    rcases hans2 with ⟨p2, rfl, hn2⟩ | ⟨t2, b2, rfl, hr2, hT2⟩
    · have HN := hideT' (SbT_s (l := l) (k := k) hn2)
      clear hn2 hB2
      go_wp2
      go_ret2
      exact ⟨TOut.bad HN.out, HB2.out⟩
    · have hT1 : TrIn w2 (fun _ => True) t b := TrIn.keep (w := w1) hB2.size (fun x _ hx => hB2.block x hx) (fun _ _ _ => trivial) HT.out
      have hT22 : TrIn w2 (fun _ => True) t2 b2 := TrIn.mono (fun _ _ _ => trivial) hT2
      have f1 := readP'_facts HR.out
      have f2 := readP'_facts hr2
      by_cases hk : 0 ≤ k ∧ k ≤ 99
      · have HN := hideT' (SbT_ok HR.out hr2 hk)
        obtain ⟨hk1, hk2⟩ := hk
        have HC3 := hideT' (substituted_any t b k t2 b2 w2 hT1 hT22 (by omega) (by omega) (Lm.ok_bd f1.2.2.2.1) (Lm.ok_bd f2.2.2.2.1) ⟨by omega, by omega⟩)
        have HSZ : Hid ((t.sub k t2 0).sz ≤ 1000000) := Nat.le_trans (Lm.sub_sz k t2 t 0).1 (Nat.le_trans (Nat.mul_le_mul f1.2.1 f2.2.1) (by omega))
        clear hr2 hT2 hB2 hT1 hT22 f1 f2
        go_wp2_with fail
        refine HC3.out.mono ?_
        rintro e w3 ⟨⟨b3, rfl, hT3⟩, hB3⟩
        have HB3 : Hid (Below w.heap.size w w3) := HB2.out.trans (hB3.mono HB2.out.size)
        have HC4 := hideT' (tellTree_any _ b3 _ w3 hT3 HSZ.out)
        clear hT3 hB3
        go_wp2_with fail
        refine HC4.out.mono ?_
        rintro e w4 ⟨hT4, hB4⟩
        obtain ⟨u4, rfl, hO4⟩ := hT4
        have HF : Hid (TOut w (SbT l k s) (.returned (.tuple #[u4, .bool (t.sub k t2 0).good])) w4 ∧ Below w.heap.size w w4) := ⟨ToldT.out (t := t.sub k t2 0) ⟨u4, rfl, hO4⟩ HB3.out.size HN.out, HB3.out.trans (hB4.mono HB3.out.size)⟩
        obtain ⟨q, hq⟩ : ∃ q, q = (t.sub k t2 0).good := ⟨_, rfl⟩
        rw [← hq] at HF ⊢
        clear hq hO4 hB4
        go_wp2
        go_ret2
        exact HF.out
      · have HN := hideT' (SbT_k (l := l) (s := s) hk)
        clear hr2 hT2 hB2 hT1 hT22 f1 f2
        by_cases h0 : k < 0
        · go_wp2
          go_ret2
          exact ⟨TOut.bad HN.out, HB2.out⟩
        · have h9 : 99 < k := by omega
          go_wp2
          go_ret2
          exact ⟨TOut.bad HN.out, HB2.out⟩
set_option maxHeartbeats 4000000 in
theorem specSubstTerm_any (l : List Nd) (k : Int) (s : List Nd) (v vs : Value) (w : World) (hv : NdIn w v l) (hvs : NdIn w vs s) (hl : l.length ≤ 1048576) (hls : s.length ≤ 1048576) :
    Calls Try.prog 27 #[v, .int .i64 k, vs] w fun e w' => TOut w (SbT l k s) e w' ∧ Below w.heap.size w w' := by
  have HV := hideT' hv
  have HVS := hideT' hvs
  have HC := hideT' (specGoodTerm_any l v w hv hl)
  clear hv hvs
  cases hr : readP' l with
  | none =>
    have HN := hideT' (SbT_l (k := k) (s := s) hr)
    rw [goodS_none hr] at HC
    clear hr
    go_enter Try.func27, Try.ntmps27
    go_wp2_with fail
    refine HC.out.mono ?_
    rintro e w1 ⟨rfl, hB1⟩
    go_wp2
    go_ret2
    exact ⟨TOut.bad HN.out, hB1⟩
  | some t =>
    rw [goodS_some hr] at HC
    have HR := hideT' hr
    clear hr
    go_enter Try.func27, Try.ntmps27
    go_wp2_with fail
    refine HC.out.mono ?_
    rintro e w1 ⟨rfl, hB1⟩
    have HC2 := hideT' (specGoodTerm_any s vs w1 (HVS.out.below hB1) hls)
    have HB1 := hideT' hB1
    clear hB1
    cases hr2 : readP' s with
    | none =>
      have HN := hideT' (SbT_s (l := l) (k := k) hr2)
      rw [goodS_none hr2] at HC2
      clear hr2
      go_wp2_with fail
      refine HC2.out.mono ?_
      rintro e w2 ⟨rfl, hB2⟩
      have HB2 : Hid (Below w.heap.size w w2) := HB1.out.trans (hB2.mono HB1.out.size)
      clear hB2
      go_wp2
      go_ret2
      exact ⟨TOut.bad HN.out, HB2.out⟩
    | some t2 =>
      rw [goodS_some hr2] at HC2
      have HR2 := hideT' hr2
      clear hr2
      go_wp2_with fail
      refine HC2.out.mono ?_
      rintro e w2 ⟨rfl, hB2⟩
      have HB2 : Hid (Below w.heap.size w w2) := HB1.out.trans (hB2.mono HB1.out.size)
      clear hB2
      go_wp2_with fail
      refine (l1In_any k 0 99 _).mono ?_
      rintro e w3 ⟨rfl, hw3⟩
      rw [hw3]
      clear hw3
      by_cases hk : 0 ≤ k ∧ k ≤ 99
      · have HN := hideT' (SbT_ok HR.out HR2.out hk)
        have HK := hideT' hk
        rw [decide_eq_true hk.1, decide_eq_true hk.2]
        clear hk
        have HC3 := hideT' (lcTree_whole l t v w2 (HV.out.below HB2.out) HR.out)
        go_wp2_with fail
        refine HC3.out.mono ?_
        rintro e w4 ⟨⟨z4, rfl, hz4⟩, hB4⟩
        have HB4 : Hid (Below w.heap.size w w4) := HB2.out.trans (hB4.mono HB2.out.size)
        have HC4 := hideT' (lcTree_whole s t2 vs w4 (HVS.out.below HB4.out) HR2.out)
        have HZ4 := hideT' hz4
        clear hB4 hz4
        go_wp2_with fail
        refine HC4.out.mono ?_
        rintro e w5 ⟨⟨z5, rfl, hz5⟩, hB5⟩
        have HB5 : Hid (Below w.heap.size w w5) := HB4.out.trans (hB5.mono HB4.out.size)
        have f1 := readP'_facts HR.out
        have f2 := readP'_facts HR2.out
        have HC5 := hideT' (lcSubst_all k t2 ⟨HK.out.1, by have := HK.out.2; omega⟩ (Lm.ok_bd f2.2.2.2.1) (by omega) t.sz t (Nat.le_refl _) 0 z4 z5 (fun _ => True) w5 (LcIn.keep (w := w4) hB5.size (fun x _ hx => hB5.block x hx) (fun _ _ _ => trivial) HZ4.out) (LcIn.mono (fun _ _ _ => trivial) hz5) (Lm.ok_bd f1.2.2.2.1) (by omega))
        clear hB5 hz5 f1 f2
        go_wp2_with fail
        refine HC5.out.mono ?_
        rintro e w6 ⟨⟨z6, rfl, hz6⟩, hB6⟩
        have HB6 : Hid (Below w.heap.size w w6) := HB5.out.trans (hB6.mono HB5.out.size)
        have HC6 := hideT' (lcTold_any (t.sub k t2 0) z6 _ w6 hz6)
        clear hB6 hz6
        go_wp2_with fail
        refine HC6.out.mono ?_
        rintro e w7 ⟨hT4, hB4⟩
        obtain ⟨u4, rfl, hO4⟩ := hT4
        have HF : Hid (TOut w (SbT l k s) (.returned (.tuple #[u4, .bool (t.sub k t2 0).good])) w7 ∧ Below w.heap.size w w7) := ⟨ToldT.out (t := t.sub k t2 0) ⟨u4, rfl, hO4⟩ HB6.out.size HN.out, HB6.out.trans (hB4.mono HB6.out.size)⟩
        obtain ⟨q, hq⟩ : ∃ q, q = (t.sub k t2 0).good := ⟨_, rfl⟩
        rw [← hq] at HF ⊢
        clear hq hO4 hB4
        go_wp2
        go_ret2
        exact HF.out
      · have HN := hideT' (SbT_k (l := l) (s := s) hk)
        have hbb : (decide (0 ≤ k) && decide (k ≤ 99)) = false := by simpa using hk
        rw [hbb]
        clear hbb hk
        go_wp2
        go_ret2
        exact ⟨TOut.bad HN.out, HB2.out⟩
end Go.Proofs.Ytbkdlkpiaekblaa
