/-
  The texts RunT, MarkTerm, TermArg, one behind the other, as one.
-/
import Derived.Test.YtbnagagdboeedaaTailRunPassedD
import Derived.Test.YtbnagagdboeedaaRecs2
import Derived.Test.YtbnagagdboeedaaRecTerm
import Derived.Test.YtbnagagdboeedaaRecArg
import Derived.Test.YtbnagagdboeedaaTreeMem

/-
  What both RunPassed answer.
-/
namespace Go.Proofs.Ytbnagagdboeedaa
open Go.RowKit BL
set_option linter.unusedVariables false

theorem Lm.cl_shift_up (d : Nat) : ∀ {t : Lm} {m : Nat} {f : Int}, t.cl m = true → (t.shift d f).cl (m + d) = true
  | .var n, m, f, h => by
    simp [Lm.cl] at h
    rw [Lm.shift]
    split
    · simp [Lm.cl]; omega
    · simp [Lm.cl]; omega
  | .lam t, m, f, h => by
    have := Lm.cl_shift_up d (t := t) (m := m + 1) (f := f + 1) h
    rw [show m + 1 + d = m + d + 1 by omega] at this
    exact this
  | .app s t, m, f, h => by
    simp only [Lm.cl, Bool.and_eq_true] at h
    rw [Lm.shift]
    simp only [Lm.cl, Bool.and_eq_true]
    exact ⟨Lm.cl_shift_up d h.1, Lm.cl_shift_up d h.2⟩
theorem Lm.cl_pass : ∀ {t : Lm} {m : Nat}, t.cl m = true → t.pass.cl m = true
  | .var n, m, h => by simp [Lm.cl] at h; simp [Lm.pass, Lm.cl]; omega
  | .lam t, m, h => by
    have h1 := Lm.cl_pass (t := t) (m := m + 1) h
    have h2 := Lm.cl_shift_up 1 (t := Lm.lam t.pass) (m := m) (f := 0) h1
    rw [Lm.pass]
    show ((Lm.var 0).cl (m + 1) && ((Lm.lam t.pass).shift 1 0).cl (m + 1)) = true
    rw [Bool.and_eq_true]
    exact ⟨by simp [Lm.cl], h2⟩
  | .app s t, m, h => by
    simp only [Lm.cl, Bool.and_eq_true] at h
    have h1 := Lm.cl_shift_up 1 (f := 0) (Lm.cl_pass h.1)
    have h2 := Lm.cl_shift_up 2 (f := 0) (Lm.cl_pass h.2)
    rw [Lm.pass]
    show ((s.pass.shift 1 0).cl (m + 1) && ((t.pass.shift 2 0).cl (m + 1 + 1) && lastT.cl (m + 1 + 1))) = true
    rw [Bool.and_eq_true, Bool.and_eq_true]
    exact ⟨h1, h2, by simp [lastT, Lm.cl]; omega⟩
theorem Lm.free_cl : ∀ {t : Lm} {m : Nat}, t.cl m = true → t.free m = []
  | .var n, m, h => by simp [Lm.cl] at h; rw [Lm.free, if_neg (by omega)]
  | .lam t, m, h => by have := Lm.free_cl (t := t) (m := m + 1) h; rw [Lm.free]; exact_mod_cast this
  | .app s t, m, h => by
    simp only [Lm.cl, Bool.and_eq_true] at h
    rw [Lm.free, Lm.free_cl h.1, Lm.free_cl h.2]; rfl
theorem clR_of_flat {t : Lm} (hg : t.good = true) (hc : t.cl 0 = true) : clR (t.flat 0 (-1)) = some t := clR_ok ((readP'_iff _ t).2 ⟨rfl, hg⟩) (Lm.free_cl (m := 0) hc)
/-- The lambda x of x. -/
def idT : Lm := .lam (.var 0)
def RpT (l : List Nd) (fuel : Int) : Option Lm := match PaT l with
  | none => none
  | some p => if p.good = true then (if (Lm.app p idT).good = true then (EvT false ((Lm.app p idT).flat 0 (-1)) fuel) else none) else none
theorem RpT_a {l : List Nd} {fuel : Int} (h : PaT l = none) : RpT l fuel = none := by unfold RpT; rw [h]
theorem RpT_b {l : List Nd} {fuel : Int} {p : Lm} (h : PaT l = some p) (hg : p.good = false) : RpT l fuel = none := by unfold RpT; rw [h]; simp [hg]
theorem RpT_c {l : List Nd} {fuel : Int} {p : Lm} (h : PaT l = some p) (hg : (Lm.app p idT).good = false) : RpT l fuel = none := by unfold RpT; rw [h]; simp [hg]
theorem RpT_d {l : List Nd} {fuel : Int} {p : Lm} (h : PaT l = some p) (h1 : p.good = true) (hg : (Lm.app p idT).good = true) : RpT l fuel = EvT false ((Lm.app p idT).flat 0 (-1)) fuel := by unfold RpT; rw [h]; simp [hg, h1]
theorem told_cases (o : Option Lm) : (toldB o = false ∧ toldL o = []) ∨ ∃ p, o = some p ∧ p.good = true ∧ toldB o = true ∧ toldL o = tri (p.flat 0 (-1)) := by
  cases o with
  | none => exact .inl ⟨rfl, rfl⟩
  | some p =>
    cases h : p.good with
    | false => exact .inl ⟨by unfold toldB; exact h, by unfold toldL; simp [h]⟩
    | true => exact .inr ⟨p, rfl, h, by unfold toldB; exact h, by unfold toldL; simp [h]⟩
theorem told_false {o : Option Lm} {p : Lm} (h : toldB o = false) (ho : o = some p) : p.good = false := by subst ho; exact h
theorem nd_own {w : World} {B : Nat} {u : Value} {p : Lm} (h : OwnR w B u 57 termL 3 (tri (p.flat 0 (-1)))) : NdIn w u (p.flat 0 (-1)) := OwnR.inR (l := tri (p.flat 0 (-1))) h termL_len
theorem PaT_cl {l : List Nd} {p : Lm} (h : PaT l = some p) : p.cl 0 = true := by
  unfold PaT at h
  cases hc : clR l with
  | none => rw [hc] at h; cases h
  | some t => rw [hc] at h; injection h with h; subst h; exact Lm.cl_pass (clR_some hc).2.2
theorem flat_short {p : Lm} (h : p.good = true) : (p.flat 0 (-1)).length ≤ 1048576 := by rw [Lm.flat_sz]; have := (Lm.good_sz h).1; omega
set_option maxHeartbeats 8000000 in
set_option maxRecDepth 100000 in
theorem implRunPassed_any (l : List Nd) (fuel : Int) (v : Value) (w : World) (hv : NdIn w v l) (hl : l.length ≤ 1048576) :
    Calls Try.prog 49 #[v, .int .i64 fuel] w fun e w' => TOut w (RpT l fuel) e w' ∧ Below w.heap.size w w' := by
  have HC := hideT' (implPassTerm_any l v w hv hl)
  clear hv
  go_enter Try.func49, Try.ntmps49
  go_wp2_with fail
  refine HC.out.mono ?_
  rintro e w1 ⟨⟨u1, rfl, hO1⟩, hB1⟩
  have HB1 := hideT' hB1
  rcases told_cases (PaT l) with ⟨hb, hL⟩ | ⟨p, hp, hpg, hb, hL⟩
  · have HN : Hid (RpT l fuel = none) := by
      unfold Hid
      cases h : PaT l with
      | none => exact RpT_a h
      | some p => exact RpT_b h (told_false hb h)
    rw [hb]
    clear hO1 hB1 hb hL
    go_wp2
    go_ret2
    exact ⟨TOut.bad HN.out, HB1.out⟩
  · rw [hb]
    rw [hL] at hO1
    have HP := hideT' (And.intro hp hpg)
    have HO1 := hideT' hO1
    have HV := hideT' (variable_any 0 w1)
    clear hO1 hB1 hb hL hp hpg
    go_wp2_with fail
    refine HV.out.mono ?_
    rintro e w2 ⟨⟨b2, rfl, hT2⟩, hB2⟩
    have HB2 : Hid (Below w.heap.size w w2) := HB1.out.trans (hB2.mono HB1.out.size)
    have HO2 : Hid (OwnR w2 w.heap.size u1 57 termL 3 (tri (p.flat 0 (-1)))) := OwnR.below (l := tri (p.flat 0 (-1))) HO1.out hB2 (Nat.le_refl _)
    have HL := hideT' (lambdaTerm_any (.var 0) b2 _ w2 hT2 (by simp [Lm.sz]))
    clear hT2 hB2
    go_wp2_with fail
    refine HL.out.mono ?_
    rintro e w3 ⟨⟨b3, rfl, hT3⟩, hB3⟩
    have HB3 : Hid (Below w.heap.size w w3) := HB2.out.trans (hB3.mono HB2.out.size)
    have HO3 : Hid (OwnR w3 w.heap.size u1 57 termL 3 (tri (p.flat 0 (-1)))) := OwnR.below (l := tri (p.flat 0 (-1))) HO2.out hB3 (Nat.le_refl _)
    have HT := hideT' (tellTree_any idT b3 _ w3 hT3 (by simp [idT, Lm.sz]))
    have hid : idT.good = true := by decide
    have HID := hideT' hid
    clear hT3 hB3 hid
    go_wp2_with fail
    refine HT.out.mono ?_
    rintro e w4 ⟨⟨u4, rfl, hO4⟩, hB4⟩
    rw [HID.out]
    rw [HID.out, if_pos rfl] at hO4
    have HB4 : Hid (Below w.heap.size w w4) := HB3.out.trans (hB4.mono HB3.out.size)
    have hO14 : OwnR w4 w.heap.size u1 57 termL 3 (tri (p.flat 0 (-1))) := OwnR.below (l := tri (p.flat 0 (-1))) HO3.out hB4 (Nat.le_refl _)
    have HA := hideT' (implApplyTerm_any (p.flat 0 (-1)) (idT.flat 0 (-1)) u1 u4 w4 (nd_own hO14) (nd_own hO4) (flat_short HP.out.2) (flat_short HID.out))
    have HAE := hideT' (ApT_ok (clR_of_flat HP.out.2 (PaT_cl HP.out.1)) (clR_of_flat HID.out (by decide)))
    rw [HAE.out] at HA
    clear hO14 hO4 hB4
    go_wp2_with fail
    refine HA.out.mono ?_
    rintro e w5 ⟨⟨u5, rfl, hO5⟩, hB5⟩
    have HB5 : Hid (Below w.heap.size w w5) := HB4.out.trans (hB5.mono HB4.out.size)
    clear hB5
    cases hg : (Lm.app p idT).good with
    | false =>
      have HN := hideT' (RpT_c (fuel := fuel) HP.out.1 hg)
      have hb : toldB (some (Lm.app p idT)) = false := hg
      rw [hb]
      clear hO5 hg hb
      go_wp2
      go_ret2
      exact ⟨TOut.bad HN.out, HB5.out⟩
    | true =>
      have HN := hideT' (RpT_d (fuel := fuel) HP.out.1 HP.out.2 hg)
      have hb : toldB (some (Lm.app p idT)) = true := hg
      have hL5 : toldL (some (Lm.app p idT)) = tri ((Lm.app p idT).flat 0 (-1)) := by unfold toldL; simp [hg]
      rw [hL5] at hO5
      rw [hb]
      have HH := hideT' (implHeadTerm_any ((Lm.app p idT).flat 0 (-1)) fuel u5 w5 (nd_own hO5) (flat_short hg))
      clear hO5 hg hb hL5
      go_wp2_with fail
      refine HH.out.mono ?_
      rintro e w6 ⟨⟨u6, rfl, hO6⟩, hB6⟩
      have HF : Hid (TOut w (RpT l fuel) (.returned (.tuple #[u6, .bool (toldB (HdT ((Lm.app p idT).flat 0 (-1)) fuel))])) w6 ∧ Below w.heap.size w w6) := by
        refine ⟨?_, HB5.out.trans (hB6.mono HB5.out.size)⟩
        rw [HN.out]
        have := HB5.out.size
        exact ⟨u6, rfl, ⟨hO6.1, hO6.2.imp id fun ⟨g, cap, cur, h1, h2, h3⟩ => ⟨g, cap, cur, h1, by omega, h3⟩⟩⟩
      obtain ⟨m, hm⟩ : ∃ m, m = HdTN ((Lm.app p idT).flat 0 (-1)) fuel := ⟨_, rfl⟩
      obtain ⟨q, hq⟩ : ∃ q, q = toldB (HdT ((Lm.app p idT).flat 0 (-1)) fuel) := ⟨_, rfl⟩
      rw [← hq] at HF
      rw [← hm, ← hq]
      clear hO6 hB6 hm hq
      go_wp2
      go_ret2
      exact HF.out
set_option maxHeartbeats 8000000 in
set_option maxRecDepth 100000 in
theorem specRunPassed_any (l : List Nd) (fuel : Int) (v : Value) (w : World) (hv : NdIn w v l) (hl : l.length ≤ 1048576) :
    Calls Try.prog 48 #[v, .int .i64 fuel] w fun e w' => TOut w (RpT l fuel) e w' ∧ Below w.heap.size w w' := by
  have hz0 := zero_lcT.1
  have HC := hideT' (specPassTerm_any l v w hv hl)
  clear hv
  go_enter Try.func48, Try.ntmps48
  go_wp2_with fail
  refine HC.out.mono ?_
  rintro e w1 ⟨⟨u1, rfl, hO1⟩, hB1⟩
  have HB1 := hideT' hB1
  rcases told_cases (PaT l) with ⟨hb, hL⟩ | ⟨p, hp, hpg, hb, hL⟩
  · have HN : Hid (RpT l fuel = none) := by
      unfold Hid
      cases h : PaT l with
      | none => exact RpT_a h
      | some p => exact RpT_b h (told_false hb h)
    rw [hb]
    clear hO1 hB1 hb hL
    go_wp2
    go_ret2
    exact ⟨TOut.bad HN.out, HB1.out⟩
  · rw [hb]
    rw [hL] at hO1
    have HP := hideT' (And.intro hp hpg)
    have HT := hideT' (lcTree_whole (p.flat 0 (-1)) p u1 w1 (nd_own hO1) ((readP'_iff _ p).2 ⟨rfl, hpg⟩))
    clear hO1 hB1 hb hL hp hpg
    go_wp2_with fail
    refine HT.out.mono ?_
    rintro e w2 ⟨⟨z2, rfl, hz2⟩, hB2⟩
    have HB2 : Hid (Below w.heap.size w w2) := HB1.out.trans (hB2.mono HB1.out.size)
    have HZ2 := hideT' hz2
    have HV := hideT' (lcVar_any 0 w2)
    obtain ⟨k1, hk1⟩ : ∃ k, k = lcC p.kd p.nm z2 := ⟨_, rfl⟩
    rw [← hk1]
    have HK1 := hideT' hk1
    clear hz2 hB2 hk1
    go_wp2_with fail
    refine HV.out.mono ?_
    rintro e w3 ⟨rfl, hB3⟩
    have HB3 : Hid (Below w.heap.size w w3) := HB2.out.trans (hB3.mono HB2.out.size)
    have HZ3 : Hid (LcIn w3 (fun _ => True) p z2) := LcIn.below hB3 (LcIn.mono (fun _ _ _ => trivial) HZ2.out)
    have HL := hideT' (lcLam_any (.var 0) (.slice none 0 0) (fun _ => True) w3 (lcIn_var 0))
    clear hB3
    go_wp2_with fail
    refine HL.out.mono ?_
    rintro e w4 ⟨⟨z4, rfl, hz4⟩, hB4⟩
    have HB4 : Hid (Below w.heap.size w w4) := HB3.out.trans (hB4.mono HB3.out.size)
    have hz24 : LcIn w4 (fun _ => True) p z2 := LcIn.below hB4 HZ3.out
    have hz44 : LcIn w4 (fun _ => True) idT z4 := LcIn.mono (fun _ _ _ => trivial) hz4
    have HA := hideT' (lcApp_any p idT z2 z4 _ w4 hz24 hz44)
    rw [← HK1.out] at HA
    clear hz4 hz24 hz44 hB4
    go_wp2_with fail
    refine HA.out.mono ?_
    rintro e w5 ⟨⟨z5, rfl, hz5⟩, hB5⟩
    obtain ⟨o5, c5, rfl⟩ : ∃ o c, z5 = .slice o 2 c := hz5.form
    obtain ⟨w6, hw6⟩ : ∃ w6, w6 = w5.alloc (.cells #[.int .i64 3, .int .i64 0, .slice o5 2 c5] 54) := ⟨_, rfl⟩
    have hB6 : Below w5.heap.size w5 w6 := by rw [hw6]; exact (Below.refl _ _).alloc (Nat.le_refl _) _
    have HB6 : Hid (Below w.heap.size w w6) := (HB4.out.trans (hB5.mono HB4.out.size)).trans (hB6.mono (HB4.out.trans (hB5.mono HB4.out.size)).size)
    have hz6 : LcIn w6 (fun _ => True) (.app p idT) (.slice o5 2 c5) := LcIn.below hB6 (LcIn.mono (fun _ _ _ => trivial) hz5)
    have hR6 : RowAt w6 w5.heap.size 54 #[.int .i64 3, .int .i64 0, .slice o5 2 c5] := by rw [hw6]; exact RowAt.new _ _ _
    have HF := hideT' (lcFine_any (.app p idT) _ _ w6 hz6)
    obtain ⟨gd, hgd⟩ : ∃ gd, gd = (Lm.app p idT).good := ⟨_, rfl⟩
    rw [← hgd] at HF
    have HG := hideT' hgd
    have H6 := hideT' (And.intro hz6 hR6)
    unfold lcC at HF
    unfold lcC
    have hs6 : w6.heap.size = w5.heap.size + 1 := by rw [hw6]; simp
    clear hz5 hB5 hB6 hz6 hR6 hgd
    go_wp2_with fail
    rw [← hw6]
    refine HF.out.mono ?_
    rintro e w7 ⟨rfl, hB7⟩
    have HB7 : Hid (Below w.heap.size w w7) := HB6.out.trans (hB7.mono HB6.out.size)
    have hR7 := H6.out.2.below hB7 H6.out.2.lt
    have HZ7 : Hid (LcIn w7 (fun _ => True) (.app p idT) (.slice o5 2 c5)) := LcIn.below hB7 H6.out.1
    have q0 : w7.cell? ⟨w5.heap.size, 0, none⟩ = some (.int .i64 3) := by rw [cell_of_row _ _ _ _ _ _ hR7]; rfl
    have q1 : w7.cell? ⟨w5.heap.size, 1, none⟩ = some (.int .i64 0) := by rw [cell_of_row _ _ _ _ _ _ hR7]; rfl
    have q2 : w7.cell? ⟨w5.heap.size, 2, none⟩ = some (.slice o5 2 c5) := by rw [cell_of_row _ _ _ _ _ _ hR7]; rfl
    have hl7 : w5.heap.size < w7.heap.size := hR7.lt
    clear hB7 hR7 hw6
    cases gd with
    | false =>
      have HN := hideT' (RpT_c (fuel := fuel) HP.out.1 HG.out.symm)
      go_wp2
      go_ret2
      exact ⟨TOut.bad HN.out, HB7.out⟩
    | true =>
      have HN := hideT' (RpT_d (fuel := fuel) HP.out.1 HP.out.2 HG.out.symm)
      have HCR := hideT' (clR_of_flat (t := .app p idT) HG.out.symm (by simp only [Lm.cl, Bool.and_eq_true]; exact ⟨PaT_cl HP.out.1, by decide⟩))
      go_wp2_with fail
      refine (l1In_any fuel 0 1000 _).mono ?_
      rintro e w8 ⟨rfl, hw8⟩
      rw [hw8]
      clear hw8
      by_cases hk : 0 ≤ fuel ∧ fuel ≤ 1000
      · obtain ⟨F, rfl⟩ : ∃ F : Nat, fuel = (F : Int) := ⟨fuel.toNat, by omega⟩
        have hF : F ≤ 1000 := by omega
        have hEV := EvO_ok (v := false) HCR.out hF
        rw [decide_eq_true hk.1, decide_eq_true hk.2]
        clear hk
        have hcl : (Lm.app p idT).cl 0 = true := (clR_some HCR.out).2.2
        have HR := hideT' (lfRun_any false (.app p idT) _ _ F w7 hF HZ7.out HG.out.symm hcl)
        unfold lcC at HR
        have HGD : Hid (∀ s j, runT false F 0 (.app p idT) = some (s, j) → s.good = true) := fun s j h => (runT_good HG.out.symm hcl h).1
        obtain ⟨R, hRR⟩ : ∃ R, R = runT false F 0 (.app p idT) := ⟨_, rfl⟩
        rw [← hRR] at HR HGD hEV
        have HRP : Hid (RpT l (F : Int) = R.map Prod.fst) := by unfold Hid; rw [HN.out]; unfold EvT; rw [hEV]
        clear hRR hEV hcl
        go_wp2_with fail
        refine HR.out.mono ?_
        rintro e w9 ⟨hans, hB9⟩
        have HB9 : Hid (Below w.heap.size w w9) := HB7.out.trans (hB9.mono HB7.out.size)
        clear hB9 q0 q1 q2
        cases R with
        | none =>
          obtain ⟨k5, n5, o9, m5, c9, i5, rfl⟩ := hans
          have HB10 : Hid (Below w.heap.size w (w9.alloc (.cells #[.int .i64 k5, .int .i64 n5, .slice o9 m5 c9] 54))) := HB9.out.alloc HB9.out.size _
          unfold lcC
          go_wp2
          go_ret2
          exact ⟨TOut.bad HRP.out, HB10.out⟩
        | some sj =>
          obtain ⟨s, j⟩ := sj
          obtain ⟨z9, rfl, hz9⟩ := hans
          obtain ⟨o9, c9, rfl⟩ := hz9.form
          have hsg := HGD.out s j rfl
          obtain ⟨wA, hwA⟩ : ∃ wA, wA = w9.alloc (.cells #[.int .i64 s.kd, .int .i64 s.nm, .slice o9 s.kids.length c9] 54) := ⟨_, rfl⟩
          have hBA : Below w9.heap.size w9 wA := by rw [hwA]; exact (Below.refl _ _).alloc (Nat.le_refl _) _
          have HC4 := hideT' (lcTold_any s _ _ wA (LcIn.below hBA hz9))
          have HBA : Hid (Below w.heap.size w wA) := HB9.out.trans (hBA.mono HB9.out.size)
          unfold lcC at HC4
          unfold lcC
          clear hz9 hBA hsg
          go_wp2_with fail
          rw [← hwA]
          refine HC4.out.mono ?_
          rintro e wB ⟨⟨u, rfl, hO⟩, hBB⟩
          have HFN : Hid (TOut w (RpT l (F : Int)) (.returned (.tuple #[u, .bool s.good])) wB ∧ Below w.heap.size w wB) := ⟨told_end hO HBA.out.size HRP.out, HBA.out.trans (hBB.mono HBA.out.size)⟩
          obtain ⟨q, hq⟩ : ∃ q, q = s.good := ⟨_, rfl⟩
          rw [← hq] at HFN ⊢
          clear hO hBB hwA hq
          go_wp2
          go_ret2
          exact HFN.out
      · have HN2 : Hid (RpT l fuel = none) := by unfold Hid; rw [HN.out]; unfold EvT; rw [EvO_k hk]; rfl
        have hd : (decide (0 ≤ fuel) && decide (fuel ≤ 1000)) = false := by simpa using hk
        rw [hd]
        clear hk hd
        go_wp2
        go_ret2
        exact ⟨TOut.bad HN2.out, HB7.out⟩
end Go.Proofs.Ytbnagagdboeedaa

/-
  Rows of Term that are answers: what the laws' own helpers over them say.
-/
namespace Go.Proofs.Ytbnagagdboeedaa
open Go.RowKit
set_option linter.unusedVariables false
/-- One that is marked. -/
def markTerm (k : Int) : Int × Int × Int := (k, k + 1, k + 1 + 1)
theorem runX_term {o : Oper} {a : Act} {w : World} (x : Operand) (ho : o.op = .load 57 x) (b i : Nat) (hx : a.eval x = .pointer (some ⟨b, i * 3, none⟩)) (d : Int × Int × Int) (hD : w.rangeAt b (i * 3) (termL d)) :
    (execOp a.eval o).run Try.prog w = .ok (.value (.agg (termL d).toArray)) w := by
  have h := run_loadAt_mid (P := Try.prog) w b (i * 3) 57 (termL d) _ hD Try.underlying57 rfl zero_term.2
  unfold execOp
  simp only [ho, hx, Sem.run_bind, h, Result.andThen_ok]
  rfl
set_option maxHeartbeats 1000000 in
set_option maxRecDepth 100000 in
theorem eqTermS_in (v1 v2 : Value) (l : List (Int × Int × Int)) (w : World) (hl : l.length ≤ 1048576) (h1 : InR w v1 termL 3 l) (h2 : InR w v2 termL 3 l) :
    Calls Try.prog 20 #[v1, v2] w fun e w' => e = .returned (.bool true) ∧ Below w.heap.size w w' := by
  obtain ⟨o1, cap1, rfl, h1⟩ := h1
  obtain ⟨o2, cap2, rfl, h2⟩ := h2
  rcases Classical.em (l = []) with rfl | hne
  · clear h1 h2
    go_enter Try.func20, Try.ntmps20
    go_wp2_with fail
    go_loopg [5] 0 (fun g i wr => i = .int .i64 0 ∧ wr = w)
    case atStart => exact ⟨rfl, rfl⟩
    case round =>
      obtain ⟨rfl, rfl⟩ := hrel
      go_wp2
      go_ret
      exact ⟨rfl, Below.refl _ _⟩
  obtain ⟨b1, rfl, hb1, h1⟩ := h1 hne
  obtain ⟨b2, rfl, hb2, h2⟩ := h2 hne
  have H1 := hideT' h1
  have H2 := hideT' h2
  clear h1 h2 hne
  go_enter Try.func20, Try.ntmps20
  go_wp2_with fail
  go_loopg [5] l.length (fun g i wr => ∃ k : Nat, g = l.length - k ∧ k ≤ l.length ∧ i = .int .i64 (k : Int) ∧ Below w.heap.size w wr)
  case atStart => exact ⟨0, rfl, by omega, rfl, Below.refl _ _⟩
  case round =>
    obtain ⟨k, hg, hk, rfl, hW⟩ := hrel
    by_cases hlt : (k : Int) < (l.length : Int)
    · have hk' : k < l.length := by omega
      obtain ⟨d, hd⟩ : ∃ d, d = l.getD k default := ⟨_, rfl⟩
      have HDM := hideT' hd
      have h1 := H1.out
      have h2 := H2.out
      clear hd
      have hrg : ∀ w', Below w.heap.size w w' → w'.rangeAt b1 (k * 3) (termL d) ∧ w'.rangeAt b2 (k * 3) (termL d) := fun w' hB => by
        refine ⟨fun j u hu => ?_, fun j u hu => ?_⟩
        · rw [hB.cell (p := ⟨b1, k * 3 + j, none⟩) hb1]; rw [HDM.out] at hu; exact h1 k j u hk' hu
        · rw [hB.cell (p := ⟨b2, k * 3 + j, none⟩) hb2]; rw [HDM.out] at hu; exact h2 k j u hk' hu
      have HRG := hideT' hrg
      have hS := hrg wr.drew (Below.drew hW)
      clear h1 h2 hrg
      go_wp2_with fail
      refine held_begin (fun w' => w'.rangeAt b1 (k * 3) (termL d) ∧ w'.rangeAt b2 (k * 3) (termL d)) (by kernel_rfl) ?_
      refine held_val 0 (some 17) rfl rfl (by kernel_rfl) (by kernel_rfl) (by kernel_rfl) noPanic_put rfl (.slice (some ⟨b1, 0, none⟩) l.length cap1) (fun _ => rfl) hS ?_
      simp only [Act.put, List.setIfInBounds_toArray, List.set_cons_zero, List.set_cons_succ]
      refine held_val 1 (some 18) rfl rfl (by kernel_rfl) (by kernel_rfl) (by kernel_rfl) noPanic_put rfl (.int .i64 (k : Int)) (fun _ => rfl) hS ?_
      simp only [Act.put, List.setIfInBounds_toArray, List.set_cons_zero, List.set_cons_succ]
      refine held_val 2 (some 19) rfl rfl (by kernel_rfl) (by kernel_rfl) (by kernel_rfl) noPanic_put rfl (.pointer (some ⟨b1, k * 3, none⟩)) (fun _ => by go_simp) hS ?_
      simp only [Act.put, List.setIfInBounds_toArray, List.set_cons_zero, List.set_cons_succ]
      refine held_valS 3 (some 20) rfl rfl (by kernel_rfl) (by kernel_rfl) (by kernel_rfl) noPanic_put rfl (.agg (termL d).toArray) (fun _ hw' => runX_term _ rfl b1 k rfl d hw'.1) hS ?_
      simp only [Act.put, List.setIfInBounds_toArray, List.set_cons_zero, List.set_cons_succ]
      refine held_val 4 (some 21) rfl rfl (by kernel_rfl) (by kernel_rfl) (by kernel_rfl) noPanic_put rfl (.slice (some ⟨b2, 0, none⟩) l.length cap2) (fun _ => rfl) hS ?_
      simp only [Act.put, List.setIfInBounds_toArray, List.set_cons_zero, List.set_cons_succ]
      refine held_val 5 (some 22) rfl rfl (by kernel_rfl) (by kernel_rfl) (by kernel_rfl) noPanic_put rfl (.int .i64 (k : Int)) (fun _ => rfl) hS ?_
      simp only [Act.put, List.setIfInBounds_toArray, List.set_cons_zero, List.set_cons_succ]
      refine held_val 6 (some 23) rfl rfl (by kernel_rfl) (by kernel_rfl) (by kernel_rfl) noPanic_put rfl (.pointer (some ⟨b2, k * 3, none⟩)) (fun _ => by go_simp) hS ?_
      simp only [Act.put, List.setIfInBounds_toArray, List.set_cons_zero, List.set_cons_succ]
      refine held_valS 7 (some 24) rfl rfl (by kernel_rfl) (by kernel_rfl) (by kernel_rfl) noPanic_put rfl (.agg (termL d).toArray) (fun _ hw' => runX_term _ rfl b2 k rfl d hw'.2) hS ?_
      simp only [Act.put, List.setIfInBounds_toArray, List.set_cons_zero, List.set_cons_succ]
      refine held_call 8 (some 25) (by kernel_rfl) rfl rfl rfl 56 #[.agg (termL d).toArray, .agg (termL d).toArray] (by go_simp) _ (eqTerm_any d wr.drew) ?_
      rintro e w2 ⟨rfl, hW2⟩
      have hW2 : Below wr.heap.size wr w2 := ⟨hW2.os, hW2.tape, hW2.output, hW2.size, hW2.block⟩
      have hW3 := hW.trans (hW2.mono hW.size)
      have hS2 := HRG.out w2 hW3
      refine ⟨_, rfl, hS2, ?_⟩
      simp only [Act.put, List.setIfInBounds_toArray, List.set_cons_zero, List.set_cons_succ]
      refine held_val 9 (some 26) rfl rfl (by kernel_rfl) (by kernel_rfl) (by kernel_rfl) noPanic_put rfl (.bool false) (fun _ => by go_simp) hS2 ?_
      simp only [Act.put, List.setIfInBounds_toArray, List.set_cons_zero, List.set_cons_succ]
      refine wpAnyH_done (by kernel_rfl) ?_ _
      refine NoPanic.normal ?_
      go_wp2
      go_roundg (l.length - (k + 1))
      case measure => omega
      case rel => exact ⟨k + 1, rfl, by omega, by go_num, hW3⟩
    · go_wp2
      go_ret
      exact ⟨rfl, hW⟩
set_option maxHeartbeats 2000000 in
set_option maxRecDepth 100000 in
theorem markTermS_own (v : Value) (n : Nat) (xs0 : List Value) (k : Int) (B : Nat) (w : World) (hk0 : 0 < k) (hk1 : k + 3 * (n : Int) ≤ 1099511627776) (h : w.ownsRow B 57 3 v n xs0) :
    Calls Try.prog 21 #[v, .int .i64 k] w fun e w' => e = .returned (.int .i64 (k + 3 * (n : Int))) ∧ OwnR w' B v 57 termL 3 (markL markTerm 3 k n) ∧ w.grownBy w' v.ownBlock := by
  rcases h.2 with ⟨rfl, rfl⟩ | ⟨b, cap, cur, rfl, hB, _⟩
  · have hx : k + 3 * ((0 : Nat) : Int) = k := by simp
    rw [hx]
    clear hx hk1
    go_enter Try.func21, Try.ntmps21
    go_wp2_with fail
    go_loopg [1, 5] 0 (fun g x i wr => x = .int .i64 k ∧ i = .int .i64 0 ∧ wr = w)
    case atStart => exact ⟨rfl, rfl, rfl⟩
    case round =>
      obtain ⟨rfl, rfl, rfl⟩ := hrel
      go_wp2
      go_ret
      exact ⟨rfl, by simpa [OwnR, markL] using World.ownsRow_nil _ _ _ _, ⟨rfl, rfl, rfl, Nat.le_refl _, fun _ _ _ => rfl⟩⟩
  · obtain ⟨N, hN⟩ : ∃ N : Int, N = k + 3 * (n : Int) := ⟨_, rfl⟩
    have HN := hideT' hN
    have HB := hideT' hk1
    clear hN hk1
    go_enter Try.func21, Try.ntmps21
    go_wp2_with fail
    go_loopg [1, 5] n (fun g x i wr => ∃ (j : Nat) (y : Int) (xs : List Value), g = n - j ∧ j ≤ n ∧ i = .int .i64 (j : Int) ∧ x = .int .i64 y ∧ 0 < y ∧ y ≤ 1099511627776 ∧ Hid (y = k + 3 * (j : Int)) ∧ wr.ownsRow B 57 3 (.slice (some ⟨b, 0, none⟩) n cap) n xs ∧ Hid (Marked termL markTerm 3 k j xs) ∧ w.grownBy wr (some b))
    case atStart => exact ⟨0, k, xs0, rfl, by omega, rfl, rfl, by omega, by have := HB.out; omega, by simp [Hid], h, (fun j hj => by omega : Marked termL markTerm 3 k 0 xs0), ⟨rfl, rfl, rfl, Nat.le_refl _, fun _ _ _ => rfl⟩⟩
    case round =>
      clear h
      obtain ⟨j, x, xs, hg, hj, rfl, rfl, hx0, hx1, HX, hown, HM, hG⟩ := hrel
      by_cases hlt : (j : Int) < (n : Int)
      · have hj' : j < n := by omega
        have HJ : Hid (j * 3 + 3 ≤ n * 3) := by unfold Hid; omega
        have hx2 : x + 3 ≤ 1099511627776 := by have := HB.out; have := HX.out; omega
        go_wp2_with (first | (refine store_own rfl 3 _ _ rfl rfl b (j * 3) (.int .i64 (x)) rfl rfl size1_int rfl hown (by have := HJ.out; omega) ?_; intro w1 own1 hg1 hs1) | (refine store_own rfl 3 _ _ rfl rfl b (j * 3 + 1) (.int .i64 (x + 1)) rfl rfl size1_int rfl own1 (by have := HJ.out; omega) ?_; intro w2 own2 hg2 hs2) | (refine store_own rfl 3 _ _ rfl rfl b (j * 3 + 2) (.int .i64 (x + 1 + 1)) rfl rfl size1_int rfl own2 (by have := HJ.out; omega) ?_; intro w3 own3 hg3 hs3))
        go_roundg (n - (j + 1))
        case measure => omega
        case rel =>
          have hbb := HB.out
          refine ⟨j + 1, x + 3, _, rfl, by omega, congrArg (Value.int .i64) (by unfold wrap64; omega), congrArg (Value.int .i64) (by omega), by omega, hx2, by have := HX.out; unfold Hid; omega, own3, ?_, (grownX_trans (grownX_trans (grownX_trans hG hg1) hg2) hg3)⟩
          intro i hi q hq
          by_cases e : i = j
          · subst e
            have hxe : k + ((3 : Nat) : Int) * (i : Int) = x := by have := HX.out; omega
            rw [hxe]
            have hl1 := hown.1
            match q, hq with
            | 0, _ => simp [List.getElem?_set, termL, markTerm]; omega
            | 1, _ => simp [List.getElem?_set, termL, markTerm]; omega
            | 2, _ => simp [List.getElem?_set, termL, markTerm]; omega
          · exact (((HM.out.set (j * 3) (.int .i64 (x)) (by omega)).set (j * 3 + 1) (.int .i64 (x + 1)) (by omega)).set (j * 3 + 2) (.int .i64 (x + 1 + 1)) (by omega)) i (by omega) q hq
      · have hjn : j = n := by omega
        subst hjn
        have hxs := HM.out.all termL_len hown.1
        rw [hxs] at hown
        have HO := hideT' hown
        clear hown hxs
        have HXN : Hid (x = N) := by unfold Hid; rw [HX.out, HN.out]
        go_wp2
        go_ret
        refine ⟨by rw [← HN.out, ← HXN.out]; rfl, ?_, hG⟩
        have := HO.out
        unfold OwnR
        rw [markL_len]
        exact this
set_option maxHeartbeats 2000000 in
set_option maxRecDepth 100000 in
theorem heldTermS_in (v : Value) (n : Nat) (k : Int) (w : World) (hk0 : 0 < k) (hk1 : k + 3 * (n : Int) ≤ 1099511627776) (h : InR w v termL 3 (markL markTerm 3 k n)) :
    Calls Try.prog 26 #[v, .int .i64 k] w fun e w' => e = .returned (.int .i64 (k + 3 * (n : Int))) ∧ Below w.heap.size w w' := by
  obtain ⟨o, cap, rfl, h⟩ := h
  rw [markL_len]
  rcases Nat.eq_zero_or_pos n with rfl | hn
  · have hx : k + 3 * ((0 : Nat) : Int) = k := by simp
    rw [hx]
    clear hx hk1 h
    go_enter Try.func26, Try.ntmps26
    go_wp2_with fail
    go_loopg [1, 5] 0 (fun g x i wr => x = .int .i64 k ∧ i = .int .i64 0 ∧ wr = w)
    case atStart => exact ⟨rfl, rfl, rfl⟩
    case round =>
      obtain ⟨rfl, rfl, rfl⟩ := hrel
      go_wp2
      go_ret
      exact ⟨rfl, Below.refl _ _⟩
  obtain ⟨b, rfl, hb, h1⟩ := h (by intro e; have := congrArg List.length e; rw [markL_len] at this; simp at this; omega)
  obtain ⟨N, hN⟩ : ∃ N : Int, N = k + 3 * (n : Int) := ⟨_, rfl⟩
  have HN := hideT' hN
  have HB := hideT' hk1
  have H1 := hideT' h1
  clear hN hk1 h1 h
  go_enter Try.func26, Try.ntmps26
  go_wp2_with fail
  go_loopg [1, 5] n (fun g x i wr => ∃ (j : Nat) (y : Int), g = n - j ∧ j ≤ n ∧ i = .int .i64 (j : Int) ∧ x = .int .i64 y ∧ 0 < y ∧ y ≤ 1099511627776 ∧ Hid (y = k + 3 * (j : Int)) ∧ Below w.heap.size w wr)
  case atStart => exact ⟨0, k, rfl, by omega, rfl, rfl, by omega, by have := HB.out; omega, by simp [Hid], Below.refl _ _⟩
  case round =>
    obtain ⟨j, x, hg, hj, rfl, rfl, hx0, hx1, HX, hW⟩ := hrel
    by_cases hlt : (j : Int) < (n : Int)
    · have hj' : j < n := by omega
      have hx2 : x + 3 ≤ 1099511627776 := by have := HB.out; have := HX.out; omega
      have hxe : k + ((3 : Nat) : Int) * (j : Int) = x := by have := HX.out; omega
      have hcell : ∀ q u, (termL (markTerm x))[q]? = some u → wr.cell? ⟨b, j * 3 + q, none⟩ = some u := fun q u hu => by
        have := H1.out j q u (by rw [markL_len]; exact hj') (by rw [markL_get markTerm 3 k n j hj', hxe]; exact hu)
        exact (hW.cell (p := ⟨b, j * 3 + q, none⟩) hb).trans this
      have c0 := hcell 0 (.int .i64 (x)) rfl
      have c1 := hcell 1 (.int .i64 (x + 1)) rfl
      have c2 := hcell 2 (.int .i64 (x + 1 + 1)) rfl
      rw [Nat.add_zero] at c0
      have HC := hideT' hcell
      clear hcell hxe
      go_wp2
      go_roundg (n - (j + 1))
      case measure => omega
      case rel =>
        have hbb := HB.out
        exact ⟨j + 1, x + 3, rfl, by omega, congrArg (Value.int .i64) (by unfold wrap64; omega), congrArg (Value.int .i64) (by omega), by omega, hx2, by have := HX.out; unfold Hid; omega, hW⟩
    · have hjn : j = n := by omega
      have HXN : Hid (x = N) := by unfold Hid; rw [HX.out, HN.out, hjn]
      go_wp2
      go_ret
      exact ⟨by rw [← HN.out, ← HXN.out]; rfl, hW⟩
end Go.Proofs.Ytbnagagdboeedaa

/-
  Nodes that came in as an argument: what their reading says of the cells.
-/
namespace Go.Proofs.Ytbnagagdboeedaa
open Go.ChangeShapes Go.WideShapes Go.ChangeAt Go.RowKit
set_option linter.unusedVariables false

def ndsOf (l : List (Int × Int × Int)) : List Nd := l.map fun x => ⟨x.1, x.2.1, x.2.2⟩
theorem tri_ndsOf (l : List (Int × Int × Int)) : tri (ndsOf l) = l := by
  unfold tri ndsOf triN
  rw [List.map_map]
  exact List.map_id' l
theorem ndsOf_len (l : List (Int × Int × Int)) : (ndsOf l).length = l.length := by simp [ndsOf]
theorem ndsOf_tri (l : List Nd) : ndsOf (tri l) = l := by
  unfold tri ndsOf triN
  rw [List.map_map]
  exact List.map_id' l
theorem RecAt.nds {w : World} {b : Nat} {T : TypeId} {l : List (Int × Int × Int)} (h : RecAt w b T termL l) : NdIn w (slR b l) (ndsOf l) := by
  unfold NdIn
  rw [tri_ndsOf]
  exact h.inR termL_len

theorem cells_intT : Try.prog.cellsOf 3 = 1 := by kernel_rfl
set_option maxRecDepth 100000 in
theorem open_term {H : Type} {enc : TypeId × Value → H} {W : World} (n : Nat) (cs : List Value) (x : DataW H × List MemPlace) (hl : cs.length = 3) (h : DataW.trod enc Try.prog W 0 (fun _ => true) true n 59 cs = some x) :
    ∃ d : Int × Int × Int, cs = termL d ∧ True := by
  obtain ⟨xs, m, _, _, _, hlen, hf⟩ := DataW.trod_struct Try.underlying59 h
  obtain ⟨a, b, c, rfl⟩ : ∃ a b c, cs = [a, b, c] := by
    match cs, hl with
    | [a, b, c], _ => exact ⟨a, b, c, rfl⟩
  obtain ⟨y0, y1, y2, rfl⟩ : ∃ y0 y1 y2, xs = [y0, y1, y2] := by
    match xs, hlen with
    | [y0, y1, y2], _ => exact ⟨y0, y1, y2, rfl⟩
  have g0 : DataW.trod enc Try.prog W 0 (fun _ => true) true m 3 (([a, b, c].drop 0).take (Try.prog.cellsOf 3)) = some y0 := by simpa using hf 0 _ rfl
  have g1 : DataW.trod enc Try.prog W 0 (fun _ => true) true m 3 (([a, b, c].drop 1).take (Try.prog.cellsOf 3)) = some y1 := by simpa using hf 1 _ rfl
  have g2 : DataW.trod enc Try.prog W 0 (fun _ => true) true m 3 (([a, b, c].drop 2).take (Try.prog.cellsOf 3)) = some y2 := by simpa using hf 2 _ rfl
  rw [cells_intT] at g0 g1 g2
  obtain ⟨k, e0, _, _⟩ := DataW.trod_int Try.underlying3 g0
  obtain ⟨u, e1, _, _⟩ := DataW.trod_int Try.underlying3 g1
  obtain ⟨t, e2, _, _⟩ := DataW.trod_int Try.underlying3 g2
  simp at e0 e1 e2
  exact ⟨(k, u, t), by rw [e0, e1, e2]; rfl, trivial⟩
theorem cells_lterm : Try.prog.cellsOf 59 = 3 := by kernel_rfl

set_option maxRecDepth 100000 in
theorem open_terms {H : Type} {enc : TypeId × Value → H} {W : World} {base : Nat} {v : Value} {d : DataW H} {ps : List MemPlace} (hval : Value.okWide Try.prog W .any base 22 v) (h : DataW.Trod enc Try.prog W 0 (fun _ => true) true 22 v d ps) :
    ∃ l : List (Int × Int × Int), SlR W v termL 3 l ∧ l.length ≤ maxLen := by
  obtain ⟨a0, len, cap, rfl⟩ := okWide_slice Try.underlying22 hval
  obtain ⟨fuel, hf⟩ := h
  obtain ⟨v', l, e1, hL, q1, q2⟩ := open_recs termL 3 (by decide) termL_len (fun _ => True) Try.underlying22 cells_lterm open_term hf
  have e2 : Value.slice a0 len cap = v' := by simpa [Value.cells] using e1
  rw [e2]
  exact ⟨l, hL, q2⟩
end Go.Proofs.Ytbnagagdboeedaa
