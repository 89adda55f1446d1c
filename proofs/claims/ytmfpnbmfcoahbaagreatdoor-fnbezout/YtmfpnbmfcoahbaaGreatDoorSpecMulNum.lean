/-
  The texts SpecMulNum, SpecAddNum of the pack PkSpecMulNum alone, for seats that need no data.
-/
import Derived.Test.YtmfpnbmfcoahbaaGreatDoorPkImplMulNum
import Derived.Test.YtmfpnbmfcoahbaaGreatDoorPkImplMake
import Derived.Test.YtmfpnbmfcoahbaaGreatDoorPkSpecParts
import Derived.Test.YtmfpnbmfcoahbaaGreatDoorPkSpecMul
import Derived.Test.YtmfpnbmfcoahbaaGreatDoorPkSpecSub

/-
  What spec.l2Mul, spec.MulNum and spec.DivNum answer.
-/
namespace Go.Proofs.YtmfpnbmfcoahbaaGreatDoor
open Go.RowKit
set_option linter.unusedVariables false

theorem good_size {s : ByteArray} (h : goodB s.data.toList = true) : s.size ≤ 600 := by have := good_len h; simpa using this
theorem mul_size {s : ByteArray} {n m : Nat} (hc : canonB s.data.toList = true) (hv : dval s.data.toList = n * m) (hn : n < 10 ^ 600) (hm : m < 10 ^ 600) : s.size ≤ 1200 := by
  have h1 := mul_lt_pow 600 600 hn hm
  rw [← hv] at h1
  have := (canon_len_le hc (600 + 600) (by omega)).2 h1
  simpa using this
theorem botN_ne {l : List UInt8} (h : okN l = true) : botN l ≠ 0 := by
  unfold okN at h
  unfold botN
  cases hb : brokenN l with
  | false => simp
  | true =>
    rw [hb] at h
    simp only [Bool.and_eq_true, Bool.not_true, Bool.false_or, decide_eq_true_eq] at h
    rw [if_pos rfl]
    exact h.2.2.1

set_option maxHeartbeats 1000000 in
set_option maxRecDepth 100000 in
theorem l2Mul_any (d : Bool) (a b : ByteArray) (w : World) (hsa : a.size ≤ maxLen) (hsb : b.size ≤ maxLen) :
    Calls Tryz.prog 66 #[.string a, .string b, .bool d] w fun e w' => MulNAns d a b e ∧ Below w.heap.size w w' := by
  go_enter Tryz.func66, Tryz.ntmps66
  go_wp2_with fail
  refine (l2Parts_any a _ hsa).mono ?_
  rintro e w1 ⟨⟨g, t, u, rfl, hRa⟩, hW1⟩
  obtain ⟨oa, hoa⟩ : ∃ oa, oa = okN a.data.toList := ⟨_, rfl⟩
  rw [← hoa] at hRa ⊢
  have HOA := hideT hoa
  have HRA := hideT hRa
  clear hoa hRa
  go_wp2_with fail
  refine (l2Parts_any b _ hsb).mono ?_
  rintro e w2 ⟨⟨g', t', u', rfl, hRb⟩, hW2⟩
  obtain ⟨ob, hob⟩ : ∃ ob, ob = okN b.data.toList := ⟨_, rfl⟩
  rw [← hob] at hRb ⊢
  have HOB := hideT hob
  have HRB := hideT hRb
  have hB2 : Below w.heap.size w w2 := hW1.trans (hW2.mono hW1.size)
  clear hob hRb hW1 hW2
  cases oa with
  | false =>
    have HI : Hid (MulNAns d a b (.returned (.tuple #[.string ⟨#[]⟩, .bool false]))) := .inr ⟨by unfold mulOk; rw [← HOA.out]; rfl, rfl⟩
    go_wp2
    go_ret2
    exact ⟨HI.out, hB2⟩
  | true =>
    cases ob with
    | false =>
      have HI : Hid (MulNAns d a b (.returned (.tuple #[.string ⟨#[]⟩, .bool false]))) := .inr ⟨by unfold mulOk; rw [← HOB.out, Bool.and_false]; rfl, rfl⟩
      go_wp2
      go_ret2
      exact ⟨HI.out, hB2⟩
    | true =>
      obtain ⟨hg, g1, v1, g2, v2⟩ := HRA.out rfl
      obtain ⟨hg', g1', v1', g2', v2'⟩ := HRB.out rfl
      have ht := good_size g1
      have hu := good_size g2
      have ht' := good_size g1'
      have hu' := good_size g2'
      have HG := hideT (And.intro hg hg')
      have HC := hideT (And.intro (And.intro (good_canon g1) (good_canon g2)) (And.intro (good_canon g1') (good_canon g2')))
      have HV := hideT (And.intro (And.intro v1 v2) (And.intro v1' v2'))
      have HL := hideT (And.intro (And.intro (good_lt' g1) (good_lt' g2)) (And.intro (good_lt' g1') (good_lt' g2')))
      clear hg g1 v1 g2 v2 hg' g1' v1' g2' v2' HRA HRB
      cases d with
      | false =>
        have HK : Hid (mulOk false a b = true) := by unfold Hid mulOk; rw [← HOA.out, ← HOB.out]; rfl
        go_wp2_with fail
        refine (l1Mul_any t t' _ ht ht' HC.out.1.1 (HC.out.2.1)).mono ?_
        rintro e w3 ⟨x, rfl, hcx, hvx, hW3⟩
        have hxs : x.size ≤ 1200 := mul_size hcx hvx HL.out.1.1 HL.out.2.1
        have HX := hideT (And.intro hcx hvx)
        have hB3 : Below w.heap.size w w3 := hB2.trans (hW3.mono hB2.size)
        clear hcx hvx hW3 hB2
        go_wp2_with fail
        refine (l1Mul_any u u' _ hu hu' HC.out.1.2 (HC.out.2.2)).mono ?_
        rintro e w4 ⟨y, rfl, hcy, hvy, hW4⟩
        have hys : y.size ≤ 1200 := mul_size hcy hvy HL.out.1.2 HL.out.2.2
        have HY := hideT (And.intro hcy hvy)
        have HY0 : Hid (dval y.data.toList ≠ 0) := by
          unfold Hid
          rw [hvy, HV.out.1.2, HV.out.2.2]
          exact Nat.mul_ne_zero (botN_ne HOA.out.symm) (botN_ne HOB.out.symm)
        have hB4 : Below w.heap.size w w4 := hB3.trans (hW4.mono hB3.size)
        clear hcy hvy hW4 hB3
        go_wp2_with fail
        refine (l2Make_any (g != g') x y _ (by omega) (by omega) HX.out.1 HY.out.1 HY0.out).mono ?_
        rintro e w5 ⟨hTN, hW5⟩
        have HTN : Hid (MulNAns false a b e) := by
          refine .inl ⟨HK.out, ?_⟩
          rw [← HG.out.1, ← HG.out.2]
          have h1 : dval x.data.toList = mulTop false a b := by rw [HX.out.2, HV.out.1.1, HV.out.2.1]; rfl
          have h2 : dval y.data.toList = mulBot false a b := by rw [HY.out.2, HV.out.1.2, HV.out.2.2]; rfl
          have := hTN
          rw [h1, h2] at this
          exact this
        obtain ⟨s5, o5, rfl⟩ := hTN.form
        clear hTN
        go_wp2
        go_ret2
        exact ⟨HTN.out, hB4.trans (hW5.mono hB4.size)⟩
      | true =>
        by_cases hz : t' = ⟨#[48]⟩
        · have HI : Hid (MulNAns true a b (.returned (.tuple #[.string ⟨#[]⟩, .bool false]))) := by
            refine .inr ⟨?_, rfl⟩
            unfold mulOk
            have : topN b.data.toList = 0 := by rw [← HV.out.2.1, hz]; decide
            rw [this]; simp
          subst hz
          go_wp2
          go_ret2
          exact ⟨HI.out, hB2⟩
        · have hz' : (t'.toList == [48]) = false := str_ne (fun h => hz (WideShapes.bytes_inj h))
          have HZ : Hid (topN b.data.toList ≠ 0) := by unfold Hid; rw [← HV.out.2.1]; exact fun e => hz (WideShapes.bytes_inj ((canon_zero HC.out.2.1).1 e))
          have HK : Hid (mulOk true a b = true) := by unfold Hid mulOk; rw [← HOA.out, ← HOB.out, decide_eq_false HZ.out]; rfl
          clear hz
          go_wp2_with fail
          refine (l1Mul_any t u' _ ht hu' HC.out.1.1 (HC.out.2.2)).mono ?_
          rintro e w3 ⟨x, rfl, hcx, hvx, hW3⟩
          have hxs : x.size ≤ 1200 := mul_size hcx hvx HL.out.1.1 HL.out.2.2
          have HX := hideT (And.intro hcx hvx)
          have hB3 : Below w.heap.size w w3 := hB2.trans (hW3.mono hB2.size)
          clear hcx hvx hW3 hB2
          go_wp2_with fail
          refine (l1Mul_any u t' _ hu ht' HC.out.1.2 (HC.out.2.1)).mono ?_
          rintro e w4 ⟨y, rfl, hcy, hvy, hW4⟩
          have hys : y.size ≤ 1200 := mul_size hcy hvy HL.out.1.2 HL.out.2.1
          have HY := hideT (And.intro hcy hvy)
          have HY0 : Hid (dval y.data.toList ≠ 0) := by
            unfold Hid
            rw [hvy, HV.out.1.2, HV.out.2.1]
            exact Nat.mul_ne_zero (botN_ne HOA.out.symm) (HZ.out)
          have hB4 : Below w.heap.size w w4 := hB3.trans (hW4.mono hB3.size)
          clear hcy hvy hW4 hB3
          go_wp2_with fail
          refine (l2Make_any (g != g') x y _ (by omega) (by omega) HX.out.1 HY.out.1 HY0.out).mono ?_
          rintro e w5 ⟨hTN, hW5⟩
          have HTN : Hid (MulNAns true a b e) := by
            refine .inl ⟨HK.out, ?_⟩
            rw [← HG.out.1, ← HG.out.2]
            have h1 : dval x.data.toList = mulTop true a b := by rw [HX.out.2, HV.out.1.1, HV.out.2.2]; rfl
            have h2 : dval y.data.toList = mulBot true a b := by rw [HY.out.2, HV.out.1.2, HV.out.2.1]; rfl
            have := hTN
            rw [h1, h2] at this
            exact this
          obtain ⟨s5, o5, rfl⟩ := hTN.form
          clear hTN
          go_wp2
          go_ret2
          exact ⟨HTN.out, hB4.trans (hW5.mono hB4.size)⟩

set_option maxHeartbeats 400000 in
theorem specMulNum_any (a b : ByteArray) (w : World) (hsa : a.size ≤ maxLen) (hsb : b.size ≤ maxLen) :
    Calls Tryz.prog 35 #[.string a, .string b] w fun e w' => MulNAns false a b e ∧ Below w.heap.size w w' := by
  go_enter Tryz.func35, Tryz.ntmps35
  go_wp2_with fail
  refine (l2Mul_any false a b _ hsa hsb).mono ?_
  rintro e w1 ⟨hA, hW1⟩
  obtain ⟨s, o, rfl, _⟩ := hA.same hA
  have HA := hideT hA
  clear hA
  go_wp2
  go_ret2
  exact ⟨HA.out, hW1⟩

end Go.Proofs.YtmfpnbmfcoahbaaGreatDoor

/-
  What spec.l2Add, spec.AddNum and spec.SubNum answer.
-/
namespace Go.Proofs.YtmfpnbmfcoahbaaGreatDoor
open Go.RowKit
set_option linter.unusedVariables false

set_option maxHeartbeats 1000000 in
set_option maxRecDepth 100000 in
theorem l2Add_any (d : Bool) (a b : ByteArray) (w : World) (hsa : a.size ≤ maxLen) (hsb : b.size ≤ maxLen) :
    Calls Tryz.prog 67 #[.string a, .string b, .bool d] w fun e w' => AddNAns d a b e ∧ Below w.heap.size w w' := by
  go_enter Tryz.func67, Tryz.ntmps67
  go_wp2_with fail
  refine (l2Parts_any a _ hsa).mono ?_
  rintro e w1 ⟨⟨g, t, u, rfl, hRa⟩, hW1⟩
  obtain ⟨oa, hoa⟩ : ∃ oa, oa = okN a.data.toList := ⟨_, rfl⟩
  rw [← hoa] at hRa ⊢
  have HOA := hideT hoa
  have HRA := hideT hRa
  clear hoa hRa
  go_wp2_with fail
  refine (l2Parts_any b _ hsb).mono ?_
  rintro e w2 ⟨⟨g', t', u', rfl, hRb⟩, hW2⟩
  obtain ⟨ob, hob⟩ : ∃ ob, ob = okN b.data.toList := ⟨_, rfl⟩
  rw [← hob] at hRb ⊢
  have HOB := hideT hob
  have HRB := hideT hRb
  have hB2 : Below w.heap.size w w2 := hW1.trans (hW2.mono hW1.size)
  clear hob hRb hW1 hW2
  cases oa with
  | false =>
    have HI : Hid (AddNAns d a b (.returned (.tuple #[.string ⟨#[]⟩, .bool false]))) := .inr ⟨by rw [← HOA.out]; rfl, rfl⟩
    go_wp2
    go_ret2
    exact ⟨HI.out, hB2⟩
  | true =>
    cases ob with
    | false =>
      have HI : Hid (AddNAns d a b (.returned (.tuple #[.string ⟨#[]⟩, .bool false]))) := .inr ⟨by rw [← HOB.out, Bool.and_false], rfl⟩
      go_wp2
      go_ret2
      exact ⟨HI.out, hB2⟩
    | true =>
      obtain ⟨hg, g1, v1, g2, v2⟩ := HRA.out rfl
      obtain ⟨hg', g1', v1', g2', v2'⟩ := HRB.out rfl
      have ht := good_size g1
      have hu := good_size g2
      have ht' := good_size g1'
      have hu' := good_size g2'
      have HG := hideT (And.intro hg hg')
      have HC := hideT (And.intro (And.intro (good_canon g1) (good_canon g2)) (And.intro (good_canon g1') (good_canon g2')))
      have HV := hideT (And.intro (And.intro v1 v2) (And.intro v1' v2'))
      have HL := hideT (And.intro (And.intro (good_lt' g1) (good_lt' g2)) (And.intro (good_lt' g1') (good_lt' g2')))
      have HK : Hid ((okN a.data.toList && okN b.data.toList) = true) := by unfold Hid; rw [← HOA.out, ← HOB.out]; rfl
      clear hg g1 v1 g2 v2 hg' g1' v1' g2' v2' HRA HRB
      go_wp2_with fail
      refine (l1Mul_any t u' _ ht hu' HC.out.1.1 HC.out.2.2).mono ?_
      rintro e w3 ⟨x, rfl, hcx, hvx, hW3⟩
      have hxs : x.size ≤ 1200 := mul_size hcx hvx HL.out.1.1 HL.out.2.2
      have HX := hideT (And.intro hcx hvx)
      have hB3 : Below w.heap.size w w3 := hB2.trans (hW3.mono hB2.size)
      clear hcx hvx hW3 hB2
      go_wp2_with fail
      refine (l1Mul_any t' u _ ht' hu HC.out.2.1 HC.out.1.2).mono ?_
      rintro e w4 ⟨y, rfl, hcy, hvy, hW4⟩
      have hys : y.size ≤ 1200 := mul_size hcy hvy HL.out.2.1 HL.out.1.2
      have HY := hideT (And.intro hcy hvy)
      have hB4 : Below w.heap.size w w4 := hB3.trans (hW4.mono hB3.size)
      clear hcy hvy hW4 hB3
      go_wp2_with fail
      refine (l2Sum_any g (g' != d) x y _ (by omega) (by omega) HX.out.1 HY.out.1).mono ?_
      rintro e w5 ⟨⟨h, s, rfl, hcs, hvs⟩, hW5⟩
      have hss : s.size ≤ 1201 := by
        refine sum_size 1200 (by decide) hcs HX.out.1 HY.out.1 hxs hys ?_
        have e1 := sg_abs h (dval s.data.toList)
        have e2 := sg_abs g (dval x.data.toList)
        have e3 := sg_abs (g' != d) (dval y.data.toList)
        omega
      have HS := hideT (And.intro hcs hvs)
      have hB5 : Below w.heap.size w w5 := hB4.trans (hW5.mono hB4.size)
      clear hcs hvs hW5 hB4
      go_wp2_with fail
      refine (l1Mul_any u u' _ hu hu' HC.out.1.2 HC.out.2.2).mono ?_
      rintro e w6 ⟨z, rfl, hcz, hvz, hW6⟩
      have hzs : z.size ≤ 1200 := mul_size hcz hvz HL.out.1.2 HL.out.2.2
      have HZ := hideT (And.intro hcz hvz)
      have HZ0 : Hid (dval z.data.toList ≠ 0) := by
        unfold Hid
        rw [hvz, HV.out.1.2, HV.out.2.2]
        exact Nat.mul_ne_zero (botN_ne HOA.out.symm) (botN_ne HOB.out.symm)
      have hB6 : Below w.heap.size w w6 := hB5.trans (hW6.mono hB5.size)
      clear hcz hvz hW6 hB5
      go_wp2_with fail
      refine (l2Make_any h s z _ (by omega) (by omega) HS.out.1 HZ.out.1 HZ0.out).mono ?_
      rintro e w7 ⟨hTN, hW7⟩
      have HTN : Hid (AddNAns d a b e) := by
        refine .inl ⟨HK.out, ?_⟩
        have h1 : sg h (dval s.data.toList) = addZ d a b := by
          rw [HS.out.2, HX.out.2, HY.out.2, HV.out.1.1, HV.out.1.2, HV.out.2.1, HV.out.2.2, topZ_eq, HG.out.1, HG.out.2]
          rfl
        have h2 : dval s.data.toList = (addZ d a b).natAbs := by rw [← h1, sg_abs]
        have h3 : dval z.data.toList = addBot a b := by rw [HZ.out.2, HV.out.1.2, HV.out.2.2]; rfl
        have := hTN
        rw [sg_neg, h1, h2, h3] at this
        exact this
      obtain ⟨s5, o5, rfl⟩ := hTN.form
      clear hTN
      go_wp2
      go_ret2
      exact ⟨HTN.out, hB6.trans (hW7.mono hB6.size)⟩

set_option maxHeartbeats 400000 in
theorem specSubNum_any (a b : ByteArray) (w : World) (hsa : a.size ≤ maxLen) (hsb : b.size ≤ maxLen) :
    Calls Tryz.prog 36 #[.string a, .string b] w fun e w' => AddNAns true a b e ∧ Below w.heap.size w w' := by
  go_enter Tryz.func36, Tryz.ntmps36
  go_wp2_with fail
  refine (l2Add_any true a b _ hsa hsb).mono ?_
  rintro e w1 ⟨hA, hW1⟩
  obtain ⟨s, o, rfl, _⟩ := hA.same hA
  have HA := hideT hA
  clear hA
  go_wp2
  go_ret2
  exact ⟨HA.out, hW1⟩
end Go.Proofs.YtmfpnbmfcoahbaaGreatDoor

