/-
  What spec.GcdNat answers.
-/
import Derived.Test.YtcdidibphaemoaaDoorSpecGcd
import Derived.Test.YtcdidibphaemoaaDoorAns
namespace Go.Proofs.YtcdidibphaemoaaDoor
open Go.RowKit
set_option linter.unusedVariables false

set_option maxHeartbeats 400000 in
theorem specGcd_any (a b : ByteArray) (w : World) (hsa : a.size ≤ maxLen) (hsb : b.size ≤ maxLen) :
    Calls Tryd.prog 13 #[.string a, .string b] w fun e w' => Ans (goodB a.data.toList && goodB b.data.toList) (Nat.gcd (dval a.data.toList) (dval b.data.toList)) e ∧ Below w.heap.size w w' := by
  cases hg : (goodB a.data.toList && goodB b.data.toList) with
  | true =>
    have HG := hideT hg
    have hga : goodB a.data.toList = true := by have := HG.out; simp only [Bool.and_eq_true] at this; exact this.1
    have hgb : goodB b.data.toList = true := by have := HG.out; simp only [Bool.and_eq_true] at this; exact this.2
    have hla : a.size ≤ 600 := by have := good_len hga; simpa using this
    have hlb : b.size ≤ 600 := by have := good_len hgb; simpa using this
    have HA := hideT (good_canon hga)
    have HB := hideT (good_canon hgb)
    have HLT := hideT (gcd_lt 600 (good_lt hga) (good_lt hgb))
    clear hg hga hgb
    go_enter Tryd.func13, Tryd.ntmps13
    go_wp2_with fail
    refine (l1Both_any a _ _ hsa hsb).mono ?_
    rintro e w' ⟨rfl, rfl⟩
    rw [HG.out]
    go_wp2_with fail
    refine (l1Gcd_any a b _ (by omega) (by omega) HA.out HB.out).mono ?_
    rintro e w2 ⟨s, rfl, c1, v1, hW2⟩
    have HS := hideT (lt_tells c1 v1 HLT.out)
    clear c1 v1
    go_wp2
    go_ret2
    exact ⟨.inl ⟨rfl, HS.out⟩, hW2⟩
  | false =>
    have HG := hideT hg
    clear hg
    go_enter Tryd.func13, Tryd.ntmps13
    go_wp2_with fail
    refine (l1Both_any a _ _ hsa hsb).mono ?_
    rintro e w' ⟨rfl, rfl⟩
    rw [HG.out]
    go_wp2
    go_ret2
    exact ⟨.inr ⟨rfl, rfl⟩, Below.refl _ _⟩
end Go.Proofs.YtcdidibphaemoaaDoor
