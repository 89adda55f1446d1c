/-
  The texts ShapeSpec, CoreSpec, IsCoreP, one behind the other.
-/
import Derived.Test.YtnmofolhfbldjaaGreatDoorPkFormRead
import Derived.Test.YtnmofolhfbldjaaGreatDoorPkFormsTree

/-
  What l4Shape of the model answers.
-/
namespace Go.Proofs.YtnmofolhfbldjaaGreatDoor
open Go.RowKit
set_option linter.unusedVariables false

set_option maxHeartbeats 8000000 in
set_option maxRecDepth 100000 in
theorem l4Shape_any (k : Int) (t : ByteArray) (z : Value) (ks : List Tr) (w : World) (hK : RowRd w 29 z ks) (h300 : szs ks ≤ 300) :
    Calls Tryz.prog 13 #[.agg (fmC k t z)] w fun e w' => ShapeAns (.mk k t ks) e ∧ Below w.heap.size w w' := by
  have hR := RowAt.new w 29 (fmC k t z)
  have c0 := (fm_c hR).1
  have c1 := (fm_c hR).2.1
  have c2 := (fm_c hR).2.2
  have hB : Below w.heap.size w (w.alloc (.cells (fmC k t z) 29)) := (Below.refl _ _).alloc (Nat.le_refl _) _
  have hK2 := hK.below hB
  obtain ⟨o, cap, hzz⟩ := hK.len
  obtain ⟨n, hn⟩ : ∃ n, n = ks.length := ⟨_, rfl⟩
  rw [← hn] at hzz
  have hls := len_szs ks
  have h300n : n ≤ 300 := by omega
  have HK := hideT' hK2
  have HNN := hideT' hn
  have H3K : Hid (∀ (k1 : Int) (t1 : ByteArray) (ks1 : List Tr) (i : Nat), ks[i]? = some (.mk k1 t1 ks1) → ks1.length ≤ 300) := fun k1 t1 ks1 i h => by have := szs_kid ks i h; have := len_szs ks1; omega
  have HR := hideT' hR
  subst hzz
  clear hR hK hK2 hn h300 hls
  by_cases hk5 : ¬ k = 5
  · have hkb5 : (k != 5) = true := by simp [hk5]
    by_cases hk2 : k = 2
    · have hkb2 : (k != 2) = false := by simp [hk2]
      have hkb6 : (k != 6) = true := by simp [hk2]
      have HE := hideT' (shape_sym (t := t) (ks := ks) hk2)
      have HV : Hid (isVar (.mk k t ks) = !inL kwL t) := by unfold Hid isVar Tr.k Tr.t; simp [hk2]
      clear hk2 hk5
      go_enter Tryz.func13, Tryz.ntmps13
      go_wp2_with fail
      refine (specIsKeyword_any t _).mono ?_
      rintro e w1 ⟨rfl, hB1⟩
      have hB2 : Below w.heap.size w w1 := hB.trans (hB1.mono hB.size)
      obtain ⟨b, hb⟩ : ∃ b, b = inL kwL t := ⟨_, rfl⟩
      rw [← hb]
      have HB := hideT' hb
      clear hb
      cases b with
      | true =>
        go_wp2
        go_ret2
        exact ⟨ShapeAns.none _ (by rw [HE.out, HV.out, ← HB.out]; rfl), hB2⟩
      | false =>
        go_wp2
        go_ret2
        exact ⟨ShapeAns.some (n := 0) (by rw [HE.out, HV.out, ← HB.out]; rfl), hB2⟩
    have hkb2 : (k != 2) = true := by simp [hk2]
    by_cases hk6 : k = 6
    · have hkb6 : (k != 6) = false := by simp [hk6]
      have HE := hideT' (shape_dot (t := t) (ks := ks) hk6)
      clear hk2 hk5 hk6
      go_enter Tryz.func13, Tryz.ntmps13
      go_wp2
      go_ret2
      exact ⟨ShapeAns.none _ HE.out, hB⟩
    have hkb6 : (k != 6) = true := by simp [hk6]
    have HE := hideT' (shape_atom (t := t) (ks := ks) hk2 hk6 hk5)
    clear hk2 hk5 hk6
    go_enter Tryz.func13, Tryz.ntmps13
    go_wp2
    go_ret2
    exact ⟨ShapeAns.some (n := 0) HE.out, hB⟩
  have hk5 : k = 5 := Decidable.not_not.1 hk5
  have hkb5 : (k != 5) = false := by simp [hk5]
  have hkb6 : (k != 6) = true := by simp [hk5]
  have HK5 := hideT' hk5
  clear hk5
  cases ks with
  | nil =>
    have hn0 : n = 0 := HNN.out
    subst hn0
    go_enter Tryz.func13, Tryz.ntmps13
    go_wp2
    go_ret2
    exact ⟨ShapeAns.none _ (shape_nil HK5.out), hB⟩
  | cons A As =>
    have hlp : (0 : Int) < (n : Int) := by have := HNN.out; simp at this; omega
    have hl1 : n = As.length + 1 := HNN.out
    have hlb : ((n : Int) == 0) = false := by rw [beq_eq_false_iff_ne]; omega
    have HL1 := hideT' hl1
    obtain ⟨g, cap', kA, tA, ksA, zA, hzz, hAA, a0, a1, a2, hrA⟩ := HK.out.at 0 (by simp)
    injection hzz with hz1 hz2 hz3
    subst hz1
    have hA' : A = .mk kA tA ksA := by simpa using hAA
    subst hA'
    simp only [Nat.zero_mul, Nat.zero_add] at a0 a1 a2
    clear hl1 hz2 hz3 hAA a2 hrA
    by_cases hA : ¬ kA = 2
    · have hAb : (kA != 2) = true := by simp [hA]
      have HE := hideT' (shape_other (t := t) (A := .mk kA tA ksA) (As := As) HK5.out hA)
      clear hA
      go_enter Tryz.func13, Tryz.ntmps13
      go_wp2
      go_ret2
      exact ⟨ShapeAns.some (n := 0) HE.out, hB⟩
    have hA : kA = 2 := Decidable.not_not.1 hA
    have hAb : (kA != 2) = false := by simp [hA]
    have HA : Hid ((Tr.mk kA tA ksA).k = 2) := hA
    clear hA
    go_enter Tryz.func13, Tryz.ntmps13
    go_wp2_with fail
    refine (specIsKeyword_any tA _).mono ?_
    rintro e w1 ⟨rfl, hB1⟩
    have hB2 : Below w.heap.size w w1 := hB.trans (hB1.mono hB.size)
    have hKw1 := HK.out.below hB1
    have HK1 := hideT' hKw1
    have e1 : w1.cell? ⟨g, 1, none⟩ = some (.string tA) := by
      obtain ⟨g', cap', kA', tA', ksA', zA', hzz, hAA, a0', a1', a2', hrA⟩ := hKw1.at 0 (by simp)
      injection hzz with hz1 hz2 hz3
      injection hz1 with hz1
      injection hz1 with hz1
      subst hz1
      have hA' : Tr.mk kA tA ksA = .mk kA' tA' ksA' := by simpa using hAA
      injection hA' with _ h2 _
      rw [h2]
      simpa using a1'
    clear hKw1
    have g1eq : Hid (tA = (Tr.mk kA tA ksA).t) := rfl
    cases hbk : inL kwL tA with
    | false =>
      have HE : Hid (shapeP (.mk k t (.mk kA tA ksA :: As)) = some 0) := by
        unfold Hid
        rw [shape_list HK5.out, if_pos (by intro e; have := e.2; change inL kwL tA = true at this; rw [hbk] at this; cases this)]
      clear hbk
      go_wp2
      go_ret2
      exact ⟨ShapeAns.some (n := 0) HE.out, hB2⟩
    | true =>
    have HBK := hideT' hbk
    clear hbk
    cases g0 : (tA.toList == [113, 117, 111, 116, 101]) with
    | true =>
      have HE := hideT' (shape_quote (t := t) (A := .mk kA tA ksA) (As := As) HK5.out HA.out g0)
      by_cases h2 : n = 2
      · subst h2
        have HE2 : Hid (shapeP (.mk k t (.mk kA tA ksA :: As)) = some 2) := by unfold Hid; rw [HE.out, if_pos (by have := HL1.out; omega)]
        go_wp2
        go_ret2
        exact ⟨ShapeAns.some (n := 2) HE2.out, hB2⟩
      · have HE2 : Hid (shapeP (.mk k t (.mk kA tA ksA :: As)) = none) := by unfold Hid; rw [HE.out, if_neg (by have := HL1.out; omega)]
        have hne : ((n : Int) == 2) = false := by rw [beq_eq_false_iff_ne]; omega
        go_wp2
        go_ret2
        exact ⟨ShapeAns.none _ HE2.out, hB2⟩
    | false =>
    cases g1 : (tA.toList == [105, 102]) with
    | true =>
      have HE := hideT' (shape_if (t := t) (A := .mk kA tA ksA) (As := As) HK5.out HA.out g0 g1)
      by_cases h2 : n = 4
      · subst h2
        have HE2 : Hid (shapeP (.mk k t (.mk kA tA ksA :: As)) = some 1) := by unfold Hid; rw [HE.out, if_pos (by have := HL1.out; omega)]
        go_wp2
        go_ret2
        exact ⟨ShapeAns.some (n := 1) HE2.out, hB2⟩
      · have HE2 : Hid (shapeP (.mk k t (.mk kA tA ksA :: As)) = none) := by unfold Hid; rw [HE.out, if_neg (by have := HL1.out; omega)]
        have hne : ((n : Int) == 4) = false := by rw [beq_eq_false_iff_ne]; omega
        go_wp2
        go_ret2
        exact ⟨ShapeAns.none _ HE2.out, hB2⟩
    | false =>
    cases g2 : (tA.toList == [100, 101, 102, 105, 110, 101]) with
    | true =>
      have HE := hideT' (shape_def (t := t) (A := .mk kA tA ksA) (As := As) HK5.out HA.out g0 g1 (by change ((tA.toList == [100, 101, 102, 105, 110, 101]) || (tA.toList == [115, 101, 116, 33])) = true; rw [g2]; rfl))
      by_cases h2 : n = 3
      · subst h2
        obtain ⟨g', cap', k1, t1, ks1, z1, hz, hA1, d0, d1, d2, hr⟩ := HK1.out.at 1 (by have := HL1.out; simp; omega)
        injection hz with hz1 hz2 hz3
        injection hz1 with hz1
        injection hz1 with hz1
        subst hz1
        have d0' : w1.cell? ⟨g, 3, none⟩ = some (.int .i64 k1) := d0
        have d1' : w1.cell? ⟨g, 3 + 1, none⟩ = some (.string t1) := d1
        have d2' : w1.cell? ⟨g, 3 + 2, none⟩ = some z1 := d2
        have hA2 : As.getD 0 default = .mk k1 t1 ks1 := by
          rw [List.getElem?_cons_succ] at hA1
          rw [List.getD, hA1]; rfl
        have h3k := H3K.out k1 t1 ks1 1 hA1
        have HE2 : Hid (shapeP (.mk k t (.mk kA tA ksA :: As)) = if isVar (.mk k1 t1 ks1) = true then some 2 else none) := by
          unfold Hid
          rw [HE.out, hA2]
          have : As.length = 2 := by have := HL1.out; omega
          simp [this]
        have HCALL2 := hideT' (l4Name_any k1 t1 z1 ks1 w1)
        clear d0 d1 d2 hz2 hz3 hA1 hA2 hr HE h3k
        go_wp2_with fail
        refine HCALL2.out.mono ?_
        rintro e w2 ⟨rfl, hBc⟩
        have hB3 : Below w.heap.size w w2 := hB2.trans (hBc.mono hB2.size)
        obtain ⟨b, hb⟩ : ∃ b, b = isVar (.mk k1 t1 ks1) := ⟨_, rfl⟩
        rw [← hb]
        have HB := hideT' hb
        clear hb
        cases b with
        | true =>
          go_wp2
          go_ret2
          exact ⟨ShapeAns.some (n := 2) (by rw [HE2.out, ← HB.out]; rfl), hB3⟩
        | false =>
          go_wp2
          go_ret2
          exact ⟨ShapeAns.none _ (by rw [HE2.out, ← HB.out]; rfl), hB3⟩
      · have HE2 : Hid (shapeP (.mk k t (.mk kA tA ksA :: As)) = none) := by unfold Hid; rw [HE.out, if_neg (by have := HL1.out; omega)]
        have hne : ((n : Int) == 3) = false := by rw [beq_eq_false_iff_ne]; omega
        go_wp2
        go_ret2
        exact ⟨ShapeAns.none _ HE2.out, hB2⟩
    | false =>
    cases g3 : (tA.toList == [115, 101, 116, 33]) with
    | true =>
      have HE := hideT' (shape_def (t := t) (A := .mk kA tA ksA) (As := As) HK5.out HA.out g0 g1 (by change ((tA.toList == [100, 101, 102, 105, 110, 101]) || (tA.toList == [115, 101, 116, 33])) = true; rw [g2, g3]; rfl))
      by_cases h2 : n = 3
      · subst h2
        obtain ⟨g', cap', k1, t1, ks1, z1, hz, hA1, d0, d1, d2, hr⟩ := HK1.out.at 1 (by have := HL1.out; simp; omega)
        injection hz with hz1 hz2 hz3
        injection hz1 with hz1
        injection hz1 with hz1
        subst hz1
        have d0' : w1.cell? ⟨g, 3, none⟩ = some (.int .i64 k1) := d0
        have d1' : w1.cell? ⟨g, 3 + 1, none⟩ = some (.string t1) := d1
        have d2' : w1.cell? ⟨g, 3 + 2, none⟩ = some z1 := d2
        have hA2 : As.getD 0 default = .mk k1 t1 ks1 := by
          rw [List.getElem?_cons_succ] at hA1
          rw [List.getD, hA1]; rfl
        have h3k := H3K.out k1 t1 ks1 1 hA1
        have HE2 : Hid (shapeP (.mk k t (.mk kA tA ksA :: As)) = if isVar (.mk k1 t1 ks1) = true then some 2 else none) := by
          unfold Hid
          rw [HE.out, hA2]
          have : As.length = 2 := by have := HL1.out; omega
          simp [this]
        have HCALL2 := hideT' (l4Name_any k1 t1 z1 ks1 w1)
        clear d0 d1 d2 hz2 hz3 hA1 hA2 hr HE h3k
        go_wp2_with fail
        refine HCALL2.out.mono ?_
        rintro e w2 ⟨rfl, hBc⟩
        have hB3 : Below w.heap.size w w2 := hB2.trans (hBc.mono hB2.size)
        obtain ⟨b, hb⟩ : ∃ b, b = isVar (.mk k1 t1 ks1) := ⟨_, rfl⟩
        rw [← hb]
        have HB := hideT' hb
        clear hb
        cases b with
        | true =>
          go_wp2
          go_ret2
          exact ⟨ShapeAns.some (n := 2) (by rw [HE2.out, ← HB.out]; rfl), hB3⟩
        | false =>
          go_wp2
          go_ret2
          exact ⟨ShapeAns.none _ (by rw [HE2.out, ← HB.out]; rfl), hB3⟩
      · have HE2 : Hid (shapeP (.mk k t (.mk kA tA ksA :: As)) = none) := by unfold Hid; rw [HE.out, if_neg (by have := HL1.out; omega)]
        have hne : ((n : Int) == 3) = false := by rw [beq_eq_false_iff_ne]; omega
        go_wp2
        go_ret2
        exact ⟨ShapeAns.none _ HE2.out, hB2⟩
    | false =>
    cases g4 : (tA.toList == [108, 97, 109, 98, 100, 97]) with
    | true =>
      have HE := hideT' (shape_lambda (t := t) (A := .mk kA tA ksA) (As := As) HK5.out HA.out g0 g1 g2 g3 g4)
      by_cases h2 : n = 3
      · subst h2
        obtain ⟨g', cap', k1, t1, ks1, z1, hz, hA1, d0, d1, d2, hr⟩ := HK1.out.at 1 (by have := HL1.out; simp; omega)
        injection hz with hz1 hz2 hz3
        injection hz1 with hz1
        injection hz1 with hz1
        subst hz1
        have d0' : w1.cell? ⟨g, 3, none⟩ = some (.int .i64 k1) := d0
        have d1' : w1.cell? ⟨g, 3 + 1, none⟩ = some (.string t1) := d1
        have d2' : w1.cell? ⟨g, 3 + 2, none⟩ = some z1 := d2
        have hA2 : As.getD 0 default = .mk k1 t1 ks1 := by
          rw [List.getElem?_cons_succ] at hA1
          rw [List.getD, hA1]; rfl
        have h3k := H3K.out k1 t1 ks1 1 hA1
        have HE2 : Hid (shapeP (.mk k t (.mk kA tA ksA :: As)) = if paramsOk (.mk k1 t1 ks1) = true then some 2 else none) := by
          unfold Hid
          rw [HE.out, hA2]
          have : As.length = 2 := by have := HL1.out; omega
          simp [this]
        have HCALL2 := hideT' (l4Params_any k1 t1 z1 ks1 w1 hr h3k)
        clear d0 d1 d2 hz2 hz3 hA1 hA2 hr HE h3k
        go_wp2_with fail
        refine HCALL2.out.mono ?_
        rintro e w2 ⟨rfl, hBc⟩
        have hB3 : Below w.heap.size w w2 := hB2.trans (hBc.mono hB2.size)
        obtain ⟨b, hb⟩ : ∃ b, b = paramsOk (.mk k1 t1 ks1) := ⟨_, rfl⟩
        rw [← hb]
        have HB := hideT' hb
        clear hb
        cases b with
        | true =>
          go_wp2
          go_ret2
          exact ⟨ShapeAns.some (n := 2) (by rw [HE2.out, ← HB.out]; rfl), hB3⟩
        | false =>
          go_wp2
          go_ret2
          exact ⟨ShapeAns.none _ (by rw [HE2.out, ← HB.out]; rfl), hB3⟩
      · have HE2 : Hid (shapeP (.mk k t (.mk kA tA ksA :: As)) = none) := by unfold Hid; rw [HE.out, if_neg (by have := HL1.out; omega)]
        have hne : ((n : Int) == 3) = false := by rw [beq_eq_false_iff_ne]; omega
        go_wp2
        go_ret2
        exact ⟨ShapeAns.none _ HE2.out, hB2⟩
    | false =>
    cases g5 : (tA.toList == [98, 101, 103, 105, 110]) with
    | true =>
      have HE := hideT' (shape_begin (t := t) (A := .mk kA tA ksA) (As := As) HK5.out HA.out g0 g1 g2 g3 g4 g5)
      by_cases h2 : (1 : Int) < (n : Int)
      · have HE2 : Hid (shapeP (.mk k t (.mk kA tA ksA :: As)) = some 1) := by unfold Hid; rw [HE.out, if_pos (by have := HL1.out; omega)]
        go_wp2
        go_ret2
        exact ⟨ShapeAns.some (n := 1) HE2.out, hB2⟩
      · have HE2 : Hid (shapeP (.mk k t (.mk kA tA ksA :: As)) = none) := by unfold Hid; rw [HE.out, if_neg (by have := HL1.out; omega)]
        have hn1 : n = 1 := by omega
        subst hn1
        go_wp2
        go_ret2
        exact ⟨ShapeAns.none _ HE2.out, hB2⟩
    | false =>
      have HE := hideT' (shape_call (t := t) (A := .mk kA tA ksA) (As := As) HK5.out HA.out g0 g1 g2 g3 g4 g5)
      go_wp2
      go_ret2
      exact ⟨ShapeAns.none _ (by rw [HE.out]; exact if_pos HBK.out), hB2⟩
end Go.Proofs.YtnmofolhfbldjaaGreatDoor

/-
  What l4Core of the model answers.
-/
namespace Go.Proofs.YtnmofolhfbldjaaGreatDoor
open Go.RowKit
set_option linter.unusedVariables false

/-- What l4Core should answer for trees of at most N nodes. -/
def L4CoreN (N : Nat) : Prop := ∀ (k : Int) (t : ByteArray) (ks : List Tr), 1 + szs ks ≤ N → 1 + szs ks ≤ 300 → ∀ (z : Value) (w : World), RowRd w 29 z ks →
  Calls Tryz.prog 8 #[.agg (fmC k t z)] w fun e w' => e = .returned (.bool (coreP (.mk k t ks))) ∧ Below w.heap.size w w'

set_option maxHeartbeats 4000000 in
set_option maxRecDepth 100000 in
theorem l4Core_step (N : Nat) (IH : ∀ M, M < N → L4CoreN M) : L4CoreN N := by
  intro k t ks hN h300 z w hK
  have hR := RowAt.new w 29 (fmC k t z)
  have c0 := (fm_c hR).1
  have c1 := (fm_c hR).2.1
  have c2 := (fm_c hR).2.2
  have hB : Below w.heap.size w (w.alloc (.cells (fmC k t z) 29)) := (Below.refl _ _).alloc (Nat.le_refl _) _
  have hK2 := hK.below hB
  obtain ⟨o, cap, rfl⟩ := hK.len
  obtain ⟨n, hn⟩ : ∃ n, n = ks.length := ⟨_, rfl⟩
  have hls := len_szs ks
  have hn300 : n ≤ 300 := by omega
  rw [← hn] at c0 c1 c2 hK2 hR hB ⊢
  have HK := hideT' hK2
  have HNN := hideT' hn
  have HIH := hideT' IH
  have HSZ := hideT' (And.intro hN h300)
  have HR := hideT' hR
  have HCALL := hideT' (l4Shape_any k t (.slice o n cap) ks (w.alloc (.cells (fmC k t (.slice o n cap)) 29)) hK2 (by omega))
  clear IH hN h300 hls hK hn hK2 hR
  go_enter Tryz.func8, Tryz.ntmps8
  go_wp2_with fail
  refine HCALL.out.mono ?_
  rintro e w1 ⟨⟨m, rfl, hm⟩, hB1⟩
  have hBw1 : Below w.heap.size w w1 := hB.trans (hB1.mono (by simp))
  have hs1 := hB1.size
  simp only [World.size_alloc] at hs1
  cases hsh : shapeP (.mk k t ks) with
  | none =>
    have HF : Hid (coreP (.mk k t ks) = false) := by unfold Hid; rw [coreP_eq, hsh]
    clear hm
    go_wp2
    go_ret
    exact ⟨by rw [HF.out]; rfl, hBw1⟩
  | some q =>
    obtain rfl := hm q hsh
    have hq : q ≤ n := by have h : q ≤ ks.length := shape_le hsh; have := HNN.out; omega
    have HE : Hid (coreP (.mk k t ks) = coresP 0 (ks.drop q)) := by unfold Hid; rw [coreP_eq, hsh]; show coresP q ks = _; rw [coresP_drop ks q]
    have e2 : w1.cell? ⟨w.heap.size, 2, none⟩ = some (.slice o n cap) := (fm_c (RowAt.below HR.out hB1 (by simp))).2.2
    clear hm hsh c0 c1 c2
    go_wp2_with fail
    go_loopg [5] (n - q) (fun gg i wr => ∃ (j : Nat), gg = n - j ∧ q ≤ j ∧ j ≤ n ∧ i = .int .i64 (j : Int) ∧ Hid (coreP (.mk k t ks) = coresP 0 (ks.drop j)) ∧ Below (w.heap.size + 1) (w.alloc (.cells (fmC k t (.slice o n cap)) 29)) wr)
    case atStart => exact ⟨q, rfl, by omega, hq, rfl, HE, hB1.mono (by simp)⟩
    case round =>
      obtain ⟨j, rfl, hqj, hjn, rfl, HM, hW⟩ := hrel
      have hsW := hW.size
      simp only [World.size_alloc] at hsW
      have f2 : wr.cell? ⟨w.heap.size, 2, none⟩ = some (.slice o n cap) := (fm_c (RowAt.below HR.out hW (by omega))).2.2
      have hBwr : Below w.heap.size w wr := hB.trans (hW.mono (by omega))
      by_cases hlt : (j : Int) < (n : Int)
      · have hj' : j < ks.length := by have := HNN.out; omega
        obtain ⟨g, cap', k1, t1, ks1, z1, hzz, hA, d0, d1, d2, hr⟩ := (HK.out.below (hW.mono (by simp))).at j hj'
        injection hzz with hz1 hz2 hz3
        subst hz1
        have hkid := szs_kid ks j hA
        have hAd : ks.drop j = .mk k1 t1 ks1 :: ks.drop (j + 1) := by
          rw [List.drop_eq_getElem_cons hj']
          rw [List.getElem?_eq_getElem hj'] at hA
          injection hA with hA
          rw [hA]
        have HCM : Hid (coreP (.mk k t ks) = (coreP (.mk k1 t1 ks1) && coresP 0 (ks.drop (j + 1)))) := by unfold Hid; rw [HM.out, hAd, coresP]
        have HCALL2 := hideT' (HIH.out (1 + szs ks1) (by have := HSZ.out.1; omega) k1 t1 ks1 (Nat.le_refl _) (by have := HSZ.out.2; omega) z1 wr hr)
        clear hAd hA hr hz2 hz3 hkid HM
        go_wp2_with fail
        refine HCALL2.out.mono ?_
        rintro e w3 ⟨rfl, hB3⟩
        have hBw3 : Below w.heap.size w w3 := hBwr.trans (hB3.mono hBwr.size)
        have hW3 : Below (w.heap.size + 1) (w.alloc (.cells (fmC k t (.slice (some ⟨g, 0, none⟩) n cap)) 29)) w3 := hW.trans (hB3.mono (by omega))
        obtain ⟨b, hb⟩ : ∃ b, b = coreP (.mk k1 t1 ks1) := ⟨_, rfl⟩
        rw [← hb]
        have HB := hideT' hb
        clear hb
        cases b with
        | false =>
          have HF : Hid (coreP (.mk k t ks) = false) := by unfold Hid; rw [HCM.out, ← HB.out]; rfl
          go_wp2
          go_ret
          exact ⟨by rw [HF.out]; rfl, hBw3⟩
        | true =>
          have HF : Hid (coreP (.mk k t ks) = coresP 0 (ks.drop (j + 1))) := by unfold Hid; rw [HCM.out, ← HB.out]; rfl
          go_wp2
          go_roundg (n - (j + 1))
          case measure => omega
          case rel => exact ⟨j + 1, rfl, by omega, by omega, by go_num, HF, hW3⟩
      · have HT : Hid (coreP (.mk k t ks) = true) := by
          unfold Hid
          rw [HM.out, List.drop_eq_nil_of_le (by have := HNN.out; omega), coresP]
        go_wp2
        go_ret
        exact ⟨by rw [HT.out]; rfl, hBwr⟩

theorem l4Core_all : ∀ N, L4CoreN N := by
  intro N
  induction N using Nat.strongRecOn with
  | _ N IH => exact l4Core_step N IH
end Go.Proofs.YtnmofolhfbldjaaGreatDoor

/-
  What both IsCore answer.
-/
namespace Go.Proofs.YtnmofolhfbldjaaGreatDoor
open Go.RowKit
set_option linter.unusedVariables false

theorem readT (s : ByteArray) : ∃ O : Option (List Tr), readP s = O.map (fun Ts => flats Ts 0 (-1)) := by
  cases h : readP s with
  | none => exact ⟨none, rfl⟩
  | some l =>
    obtain ⟨Ts, rfl⟩ := readP_trees h
    exact ⟨some Ts, rfl⟩
/-- The trees of a text, where it is read. -/
noncomputable def treesP (s : ByteArray) : Option (List Tr) := Classical.choose (readT s)
theorem treesP_read (s : ByteArray) : readP s = (treesP s).map (fun Ts => flats Ts 0 (-1)) := Classical.choose_spec (readT s)

/-- What a reader leaves, as trees. -/
def TrAns (O : Option (List Tr)) (w : World) (e : Ending) (w' : World) : Prop :=
  match O with
  | none => ∃ c : Int, (c == 0) = false ∧ e = .returned (.tuple #[.slice none 0 0, .int .i64 c]) ∧ Below w.heap.size w w'
  | some Ts => ∃ v, e = .returned (.tuple #[v, .int .i64 0]) ∧ NodeAt w' v (flats Ts 0 (-1)) ∧ szs Ts ≤ 300 ∧ Below w.heap.size w w'
theorem RdAns.trees {s : ByteArray} {w w' : World} {e : Ending} (h : RdAns s w e w') : TrAns (treesP s) w e w' := by
  unfold RdAns at h
  rw [treesP_read s] at h
  unfold TrAns
  cases ho : treesP s with
  | none =>
    rw [ho] at h
    obtain ⟨c, hc, he, hB⟩ := h
    exact ⟨c, by rw [beq_eq_false_iff_ne]; exact hc, he, hB⟩
  | some Ts =>
    rw [ho] at h
    obtain ⟨v, he, hO, hl, hB⟩ := h
    exact ⟨v, he, NodeAt.of hO, by rw [flats_sz] at hl; exact hl, hB⟩

/-- All data of a text are core forms. -/
noncomputable def isCoreT (s : ByteArray) : Bool := match treesP s with | none => false | some Ts => coresP 0 Ts

/-- What readCore answers: forms that are core forms, or whatever and false. -/
def CoreAns (s : ByteArray) (w : World) (e : Ending) (w' : World) : Prop :=
  (isCoreT s = false ∧ ∃ o n c, e = .returned (.tuple #[.slice o n c, .bool false])) ∨ ∃ Ts z, isCoreT s = true ∧ treesP s = some Ts ∧ szs Ts ≤ 300 ∧ e = .returned (.tuple #[z, .bool true]) ∧ RowRd w' 58 z Ts
set_option maxHeartbeats 2000000 in
set_option maxRecDepth 100000 in
theorem readCore_any (s : ByteArray) (w : World) (hsz : s.size ≤ maxLen) (hT : Tab w.heap.size w) :
    Calls Tryz.prog 9 #[.string s] w fun e w' => CoreAns s w e w' ∧ Below w.heap.size w w' := by
  have HCALL := hideT' (implRead_any s w hsz hT)
  clear hsz hT
  go_enter Tryz.func9, Tryz.ntmps9
  go_wp2_with fail
  refine HCALL.out.mono ?_
  intro e w1 hA
  have hA := hA.trees
  unfold TrAns at hA
  have HE : Hid (isCoreT s = match treesP s with | none => false | some Ts => coresP 0 Ts) := rfl
  cases ho : treesP s with
  | none =>
    rw [ho] at hA
    obtain ⟨c, hc, rfl, hB⟩ := hA
    have HF : Hid (isCoreT s = false) := by unfold Hid; rw [HE.out, ho]
    have hc0 : ¬ c = 0 := by rw [beq_eq_false_iff_ne] at hc; exact hc
    have HC2 := hideT' (formsOf_any [] (.slice none 0 0) w1 (.inl ⟨rfl, rfl⟩) (by simp [flats]))
    have HB := hideT' hB
    clear ho hB
    go_wp2_with fail
    refine HC2.out.mono ?_
    rintro e w2 ⟨z, ys, rfl, h1, h2, hB2⟩
    have HB2 : Hid (Below w.heap.size w w2) := HB.out.trans (hB2.mono HB.out.size)
    obtain ⟨o, cap, hzz⟩ := (rowRd_of h1 h2).len
    subst hzz
    clear h1 h2 hB2
    go_wp2
    go_ret2
    exact ⟨.inl ⟨HF.out, _, _, _, rfl⟩, HB2.out⟩
  | some Ts =>
    rw [ho] at hA
    obtain ⟨v, rfl, hN, h300, hB⟩ := hA
    have HF : Hid (isCoreT s = coresP 0 Ts) := by unfold Hid; rw [HE.out, ho]
    have HO := hideT' ho
    have HC2 := hideT' (formsOf_any Ts v w1 hN (by rw [flats_sz]; exact h300))
    have H300 := hideT' h300
    clear ho hN h300
    go_wp2_with fail
    refine HC2.out.mono ?_
    rintro e w2 ⟨z, ys, rfl, h1, h2, hB2⟩
    have hBw2 : Below w.heap.size w w2 := hB.trans (hB2.mono hB.size)
    have hRd := rowRd_of h1 h2
    have HC3 := hideT' (allCore_all (szs Ts) Ts (Nat.le_refl _) H300.out z w2 hRd.rowO)
    obtain ⟨o, cap, hzz⟩ := hRd.len
    have HRD := hideT' hRd
    subst hzz
    clear h1 h2 hRd
    go_wp2_with fail
    refine HC3.out.mono ?_
    rintro e w3 ⟨rfl, hB3⟩
    have hBw3 : Below w.heap.size w w3 := hBw2.trans (hB3.mono hBw2.size)
    have HRD3 := hideT' (HRD.out.below hB3)
    obtain ⟨b, hb⟩ : ∃ b, b = coresP 0 Ts := ⟨_, rfl⟩
    rw [← hb]
    have HB := hideT' hb
    clear hb
    cases b with
    | false =>
      go_wp2
      go_ret2
      exact ⟨.inl ⟨by rw [HF.out, ← HB.out], _, _, _, rfl⟩, hBw3⟩
    | true =>
      go_wp2
      go_ret2
      exact ⟨.inr ⟨Ts, _, by rw [HF.out, ← HB.out], HO.out, H300.out, rfl, HRD3.out⟩, hBw3⟩
set_option maxHeartbeats 2000000 in
set_option maxRecDepth 100000 in
theorem implIsCore_any (s : ByteArray) (w : World) (hsz : s.size ≤ maxLen) (hT : Tab w.heap.size w) :
    Calls Tryz.prog 5 #[.string s] w fun e w' => e = .returned (.bool (isCoreT s)) ∧ Below w.heap.size w w' := by
  have HCALL := hideT' (readCore_any s w hsz hT)
  clear hsz hT
  go_enter Tryz.func5, Tryz.ntmps5
  go_wp2_with fail
  refine HCALL.out.mono ?_
  rintro e w1 ⟨hA, hB⟩
  rcases hA with ⟨hf, o, n, c, rfl⟩ | ⟨Ts, z, ht, _, _, rfl, hR⟩
  · have HF := hideT' hf
    clear hf
    go_wp2
    go_ret
    exact ⟨by rw [HF.out]; rfl, hB⟩
  · have HF := hideT' ht
    obtain ⟨o, cap, hzz⟩ := hR.len
    subst hzz
    clear ht hR
    go_wp2
    go_ret
    exact ⟨by rw [HF.out]; rfl, hB⟩

set_option maxHeartbeats 2000000 in
set_option maxRecDepth 100000 in
theorem specIsCore_any (s : ByteArray) (w : World) (hsz : s.size ≤ maxLen) :
    Calls Tryz.prog 4 #[.string s] w fun e w' => e = .returned (.bool (isCoreT s)) ∧ Below w.heap.size w w' := by
  have hz := zero_t4.1
  have HCALL := hideT' (specRead_any s w hsz)
  clear hsz
  go_enter Tryz.func4, Tryz.ntmps4
  go_wp2_with fail
  refine HCALL.out.mono ?_
  intro e w1 hA
  have hA := hA.trees
  unfold TrAns at hA
  have HE : Hid (isCoreT s = match treesP s with | none => false | some Ts => coresP 0 Ts) := rfl
  cases ho : treesP s with
  | none =>
    rw [ho] at hA
    obtain ⟨c, hc, rfl, hB⟩ := hA
    have HF : Hid (isCoreT s = false) := by unfold Hid; rw [HE.out, ho]
    have hcb : (c != 0) = true := by simp [bne, hc]
    clear ho
    go_wp2
    go_ret
    exact ⟨by rw [HF.out]; rfl, hB⟩
  | some Ts =>
    rw [ho] at hA
    obtain ⟨v, rfl, hN, h300, hB⟩ := hA
    have HF : Hid (isCoreT s = coresP 0 Ts) := by unfold Hid; rw [HE.out, ho]
    have HC2 := hideT' (l4Trees_any Ts v w1 hN (by rw [flats_sz]; exact h300))
    have H300 := hideT' h300
    have hls := len_szs Ts
    have hn300 : Ts.length ≤ 300 := by omega
    clear ho hN h300 hls
    go_wp2_with fail
    refine HC2.out.mono ?_
    rintro e w2 ⟨z, ys, rfl, h1, h2, hB2⟩
    have hBw2 : Below w.heap.size w w2 := hB.trans (hB2.mono hB.size)
    have hRd := rowRd_of h1 h2
    obtain ⟨o, cap, rfl⟩ := hRd.len
    obtain ⟨n, hn⟩ : ∃ n, n = Ts.length := ⟨_, rfl⟩
    rw [← hn] at hRd hn300 ⊢
    have HK := hideT' hRd
    have HNN := hideT' hn
    clear h1 h2 hRd hn
    go_wp2_with fail
    go_loopg [17] n (fun gg i wr => ∃ (j : Nat), gg = n - j ∧ j ≤ n ∧ i = .int .i64 (j : Int) ∧ Hid (isCoreT s = coresP 0 (Ts.drop j)) ∧ Below w2.heap.size w2 wr)
    case atStart => exact ⟨0, rfl, by omega, by go_num, HF, Below.refl _ _⟩
    case round =>
      obtain ⟨j, rfl, hjn, rfl, HM, hW⟩ := hrel
      have hsW := hW.size
      have hBwr : Below w.heap.size w wr := hBw2.trans (hW.mono hBw2.size)
      by_cases hlt : (j : Int) < (n : Int)
      · have hj' : j < Ts.length := by have := HNN.out; omega
        obtain ⟨g, cap', k1, t1, ks1, z1, hzz, hA, d0, d1, d2, hr⟩ := (HK.out.below hW).at j hj'
        obtain ⟨o1, p1, rfl⟩ := hr.len
        injection hzz with hz1 hz2 hz3
        subst hz1
        have hR3 : RowAt (wr.alloc (.cells #[.int .i64 k1, .string t1, (.slice o1 ks1.length p1)] 29)) wr.heap.size 29 (fmC k1 t1 (.slice o1 ks1.length p1)) := RowAt.new wr _ _
        have hB3 : Below wr.heap.size wr (wr.alloc (.cells #[.int .i64 k1, .string t1, (.slice o1 ks1.length p1)] 29)) := (Below.refl _ _).alloc (Nat.le_refl _) _
        have hs3 : ((wr.alloc (.cells #[.int .i64 k1, .string t1, (.slice o1 ks1.length p1)] 29))).heap.size = wr.heap.size + 1 := by simp
        have hkid := szs_kid Ts j hA
        have hAd : Ts.drop j = .mk k1 t1 ks1 :: Ts.drop (j + 1) := by
          rw [List.drop_eq_getElem_cons hj']
          rw [List.getElem?_eq_getElem hj'] at hA
          injection hA with hA
          rw [hA]
        have HCM : Hid (isCoreT s = (coreP (.mk k1 t1 ks1) && coresP 0 (Ts.drop (j + 1)))) := by unfold Hid; rw [HM.out, hAd, coresP]
        have HCALL2 := hideT' (l4Core_all (1 + szs ks1) k1 t1 ks1 (Nat.le_refl _) (by have := H300.out; omega) (.slice o1 ks1.length p1) (wr.alloc (.cells #[.int .i64 k1, .string t1, (.slice o1 ks1.length p1)] 29)) (hr.below hB3))
        have hW3 : Below w2.heap.size w2 (wr.alloc (.cells #[.int .i64 k1, .string t1, (.slice o1 ks1.length p1)] 29)) := hW.trans (hB3.mono hsW)
        clear hAd hA hr hz2 hz3 hkid HM hR3
        go_wp2_with fail
        refine HCALL2.out.mono ?_
        rintro e w4 ⟨rfl, hB4⟩
        have hW4 : Below w2.heap.size w2 w4 := hW3.trans (hB4.mono hW3.size)
        have hBw4 : Below w.heap.size w w4 := hBw2.trans (hW4.mono hBw2.size)
        obtain ⟨b, hb⟩ : ∃ b, b = coreP (.mk k1 t1 ks1) := ⟨_, rfl⟩
        rw [← hb]
        have HB := hideT' hb
        clear hb
        cases b with
        | false =>
          have HF : Hid (isCoreT s = false) := by unfold Hid; rw [HCM.out, ← HB.out]; rfl
          go_wp2
          go_ret
          exact ⟨by rw [HF.out]; rfl, hBw4⟩
        | true =>
          have HF : Hid (isCoreT s = coresP 0 (Ts.drop (j + 1))) := by unfold Hid; rw [HCM.out, ← HB.out]; rfl
          go_wp2
          go_roundg (n - (j + 1))
          case measure => omega
          case rel => exact ⟨j + 1, rfl, by omega, by go_num, HF, hW4⟩
      · have HT : Hid (isCoreT s = true) := by
          unfold Hid
          rw [HM.out, List.drop_eq_nil_of_le (by have := HNN.out; omega), coresP]
        go_wp2
        go_ret
        exact ⟨by rw [HT.out]; rfl, hBwr⟩
end Go.Proofs.YtnmofolhfbldjaaGreatDoor
