/-
  What spec.DivNat answers.
-/
import Derived.Test.YtnjfmjpbfidboaaDoorSpecDiv
import Derived.Test.YtnjfmjpbfidboaaDoorImplDiv
namespace Go.Proofs.YtnjfmjpbfidboaaDoor
open Go.RowKit
set_option linter.unusedVariables false

set_option maxHeartbeats 1000000 in
theorem specDiv_any (a b : ByteArray) (w : World) (hsa : a.size ≤ maxLen) (hsb : b.size ≤ maxLen) :
    Calls Tryd.prog 17 #[.string a, .string b] w fun e w' => Ans2 (divOk a b) (dval a.data.toList / dval b.data.toList) (dval a.data.toList % dval b.data.toList) e ∧ Below w.heap.size w w' := by
  cases hg : (goodB a.data.toList && goodB b.data.toList) with
  | true =>
    have HG := hideT hg
    have hga : goodB a.data.toList = true := by have := HG.out; simp only [Bool.and_eq_true] at this; exact this.1
    have hgb : goodB b.data.toList = true := by have := HG.out; simp only [Bool.and_eq_true] at this; exact this.2
    have hla : a.size ≤ 600 := by have := good_len hga; simpa using this
    have hlb : b.size ≤ 600 := by have := good_len hgb; simpa using this
    have HA := hideT (good_canon hga)
    have HB := hideT (good_canon hgb)
    clear hg hga hgb
    by_cases hz : b = ⟨#[48]⟩
    · have HN : Hid (divOk a b = false) := by
        unfold Hid divOk
        have : dval b.data.toList = 0 := by rw [hz]; decide
        rw [this]; simp
      subst hz
      go_enter Tryd.func17, Tryd.ntmps17
      go_wp2_with fail
      refine (l1Both_any a _ _ hsa hsb).mono ?_
      rintro e w' ⟨rfl, rfl⟩
      rw [HG.out]
      go_wp2
      go_ret3
      exact ⟨.inr ⟨HN.out, rfl⟩, Below.refl _ _⟩
    · have hz' : (b.toList == [48]) = false := str_ne (fun h => hz (WideShapes.bytes_inj h))
      have hb0 : dval b.data.toList ≠ 0 := fun e => hz (WideShapes.bytes_inj ((canon_zero HB.out).1 e))
      have HN : Hid (divOk a b = true) := by
        unfold Hid divOk
        rw [HG.out]; simp [hb0]
      have HB0 := hideT hb0
      clear hz hb0
      go_enter Tryd.func17, Tryd.ntmps17
      go_wp2_with fail
      refine (l1Both_any a _ _ hsa hsb).mono ?_
      rintro e w' ⟨rfl, rfl⟩
      rw [HG.out]
      go_wp2_with fail
      refine (l1Div_any a b _ (by omega) (by omega) HA.out HB.out HB0.out).mono ?_
      rintro e w2 ⟨s, t, rfl, c1, v1, c2, v2, hW2⟩
      have HS := hideT (And.intro c1 (And.intro v1 (And.intro c2 v2)))
      clear c1 v1 c2 v2
      go_wp2
      go_ret3
      exact ⟨.inl ⟨HN.out, s, t, rfl, HS.out.1, HS.out.2.1, HS.out.2.2.1, HS.out.2.2.2⟩, hW2⟩
  | false =>
    have HG := hideT hg
    have HN : Hid (divOk a b = false) := by unfold Hid divOk; rw [hg]; rfl
    clear hg
    go_enter Tryd.func17, Tryd.ntmps17
    go_wp2_with fail
    refine (l1Both_any a _ _ hsa hsb).mono ?_
    rintro e w' ⟨rfl, rfl⟩
    rw [HG.out]
    go_wp2
    go_ret3
    exact ⟨.inr ⟨HN.out, rfl⟩, Below.refl _ _⟩
end Go.Proofs.YtnjfmjpbfidboaaDoor
