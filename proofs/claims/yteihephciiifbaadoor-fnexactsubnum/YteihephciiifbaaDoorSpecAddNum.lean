/-
  What spec.l2Add, spec.AddNum and spec.SubNum answer.
-/
import Derived.Test.YteihephciiifbaaDoorNumPlus
import Derived.Test.YteihephciiifbaaDoorSpecSum
import Derived.Test.YteihephciiifbaaDoorSpecMulNum
namespace Go.Proofs.YteihephciiifbaaDoor
open Go.RowKit
set_option linter.unusedVariables false

set_option maxHeartbeats 1000000 in
set_option maxRecDepth 100000 in
theorem l2Add_any (d : Bool) (a b : ByteArray) (w : World) (hsa : a.size ≤ maxLen) (hsb : b.size ≤ maxLen) :
    Calls Tryd.prog 36 #[.string a, .string b, .bool d] w fun e w' => AddNAns d a b e ∧ Below w.heap.size w w' := by
  go_enter Tryd.func36, Tryd.ntmps36
  go_wp2_with fail
  refine (l2Parts_any a _ hsa).mono ?_
  rintro e w1 ⟨⟨g, t, u, rfl, hRa⟩, hW1⟩
  obtain ⟨oa, hoa⟩ : ∃ oa, oa = okN a.data.toList := ⟨_, rfl⟩
  rw [← hoa] at hRa ⊢
  have HOA := hideT hoa
  have HRA := hideT hRa
  clear hoa hRa
  go_wp2_with fail
  refine (l2Parts_any b _ hsb).mono ?_
  rintro e w2 ⟨⟨g', t', u', rfl, hRb⟩, hW2⟩
  obtain ⟨ob, hob⟩ : ∃ ob, ob = okN b.data.toList := ⟨_, rfl⟩
  rw [← hob] at hRb ⊢
  have HOB := hideT hob
  have HRB := hideT hRb
  have hB2 : Below w.heap.size w w2 := hW1.trans (hW2.mono hW1.size)
  clear hob hRb hW1 hW2
  cases oa with
  | false =>
    have HI : Hid (AddNAns d a b (.returned (.tuple #[.string ⟨#[]⟩, .bool false]))) := .inr ⟨by rw [← HOA.out]; rfl, rfl⟩
    go_wp2
    go_ret2
    exact ⟨HI.out, hB2⟩
  | true =>
    cases ob with
    | false =>
      have HI : Hid (AddNAns d a b (.returned (.tuple #[.string ⟨#[]⟩, .bool false]))) := .inr ⟨by rw [← HOB.out, Bool.and_false], rfl⟩
      go_wp2
      go_ret2
      exact ⟨HI.out, hB2⟩
    | true =>
      obtain ⟨hg, g1, v1, g2, v2⟩ := HRA.out rfl
      obtain ⟨hg', g1', v1', g2', v2'⟩ := HRB.out rfl
      have ht := good_size g1
      have hu := good_size g2
      have ht' := good_size g1'
      have hu' := good_size g2'
      have HG := hideT (And.intro hg hg')
      have HC := hideT (And.intro (And.intro (good_canon g1) (good_canon g2)) (And.intro (good_canon g1') (good_canon g2')))
      have HV := hideT (And.intro (And.intro v1 v2) (And.intro v1' v2'))
      have HL := hideT (And.intro (And.intro (good_lt' g1) (good_lt' g2)) (And.intro (good_lt' g1') (good_lt' g2')))
      have HK : Hid ((okN a.data.toList && okN b.data.toList) = true) := by unfold Hid; rw [← HOA.out, ← HOB.out]; rfl
      clear hg g1 v1 g2 v2 hg' g1' v1' g2' v2' HRA HRB
      go_wp2_with fail
      refine (l1Mul_any t u' _ ht hu' HC.out.1.1 HC.out.2.2).mono ?_
      rintro e w3 ⟨x, rfl, hcx, hvx, hW3⟩
      have hxs : x.size ≤ 1200 := mul_size hcx hvx HL.out.1.1 HL.out.2.2
      have HX := hideT (And.intro hcx hvx)
      have hB3 : Below w.heap.size w w3 := hB2.trans (hW3.mono hB2.size)
      clear hcx hvx hW3 hB2
      go_wp2_with fail
      refine (l1Mul_any t' u _ ht' hu HC.out.2.1 HC.out.1.2).mono ?_
      rintro e w4 ⟨y, rfl, hcy, hvy, hW4⟩
      have hys : y.size ≤ 1200 := mul_size hcy hvy HL.out.2.1 HL.out.1.2
      have HY := hideT (And.intro hcy hvy)
      have hB4 : Below w.heap.size w w4 := hB3.trans (hW4.mono hB3.size)
      clear hcy hvy hW4 hB3
      go_wp2_with fail
      refine (l2Sum_any g (g' != d) x y _ (by omega) (by omega) HX.out.1 HY.out.1).mono ?_
      rintro e w5 ⟨⟨h, s, rfl, hcs, hvs⟩, hW5⟩
      have hss : s.size ≤ 1201 := by
        refine sum_size 1200 (by decide) hcs HX.out.1 HY.out.1 hxs hys ?_
        have e1 := sg_abs h (dval s.data.toList)
        have e2 := sg_abs g (dval x.data.toList)
        have e3 := sg_abs (g' != d) (dval y.data.toList)
        omega
      have HS := hideT (And.intro hcs hvs)
      have hB5 : Below w.heap.size w w5 := hB4.trans (hW5.mono hB4.size)
      clear hcs hvs hW5 hB4
      go_wp2_with fail
      refine (l1Mul_any u u' _ hu hu' HC.out.1.2 HC.out.2.2).mono ?_
      rintro e w6 ⟨z, rfl, hcz, hvz, hW6⟩
      have hzs : z.size ≤ 1200 := mul_size hcz hvz HL.out.1.2 HL.out.2.2
      have HZ := hideT (And.intro hcz hvz)
      have HZ0 : Hid (dval z.data.toList ≠ 0) := by
        unfold Hid
        rw [hvz, HV.out.1.2, HV.out.2.2]
        exact Nat.mul_ne_zero (botN_ne HOA.out.symm) (botN_ne HOB.out.symm)
      have hB6 : Below w.heap.size w w6 := hB5.trans (hW6.mono hB5.size)
      clear hcz hvz hW6 hB5
      go_wp2_with fail
      refine (l2Make_any h s z _ (by omega) (by omega) HS.out.1 HZ.out.1 HZ0.out).mono ?_
      rintro e w7 ⟨hTN, hW7⟩
      have HTN : Hid (AddNAns d a b e) := by
        refine .inl ⟨HK.out, ?_⟩
        have h1 : sg h (dval s.data.toList) = addZ d a b := by
          rw [HS.out.2, HX.out.2, HY.out.2, HV.out.1.1, HV.out.1.2, HV.out.2.1, HV.out.2.2, topZ_eq, HG.out.1, HG.out.2]
          rfl
        have h2 : dval s.data.toList = (addZ d a b).natAbs := by rw [← h1, sg_abs]
        have h3 : dval z.data.toList = addBot a b := by rw [HZ.out.2, HV.out.1.2, HV.out.2.2]; rfl
        have := hTN
        rw [sg_neg, h1, h2, h3] at this
        exact this
      obtain ⟨s5, o5, rfl⟩ := hTN.form
      clear hTN
      go_wp2
      go_ret2
      exact ⟨HTN.out, hB6.trans (hW7.mono hB6.size)⟩

set_option maxHeartbeats 400000 in
theorem specAddNum_any (a b : ByteArray) (w : World) (hsa : a.size ≤ maxLen) (hsb : b.size ≤ maxLen) :
    Calls Tryd.prog 14 #[.string a, .string b] w fun e w' => AddNAns false a b e ∧ Below w.heap.size w w' := by
  go_enter Tryd.func14, Tryd.ntmps14
  go_wp2_with fail
  refine (l2Add_any false a b _ hsa hsb).mono ?_
  rintro e w1 ⟨hA, hW1⟩
  obtain ⟨s, o, rfl, _⟩ := hA.same hA
  have HA := hideT hA
  clear hA
  go_wp2
  go_ret2
  exact ⟨HA.out, hW1⟩

set_option maxHeartbeats 400000 in
theorem specSubNum_any (a b : ByteArray) (w : World) (hsa : a.size ≤ maxLen) (hsb : b.size ≤ maxLen) :
    Calls Tryd.prog 16 #[.string a, .string b] w fun e w' => AddNAns true a b e ∧ Below w.heap.size w w' := by
  go_enter Tryd.func16, Tryd.ntmps16
  go_wp2_with fail
  refine (l2Add_any true a b _ hsa hsb).mono ?_
  rintro e w1 ⟨hA, hW1⟩
  obtain ⟨s, o, rfl, _⟩ := hA.same hA
  have HA := hideT hA
  clear hA
  go_wp2
  go_ret2
  exact ⟨HA.out, hW1⟩
end Go.Proofs.YteihephciiifbaaDoor
