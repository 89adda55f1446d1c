/-
  The texts SpecCmpNum, ImplCmpNum, one behind the other.
-/
import Derived.Test.YtoiegaggekgmjaaPkSpecSub
import Derived.Test.YtoiegaggekgmjaaPkSpecMul
import Derived.Test.YtoiegaggekgmjaaPkSpecParts
import Derived.Test.YtoiegaggekgmjaaPkCutNum
import Derived.Test.YtoiegaggekgmjaaPkGood
import Derived.Test.YtoiegaggekgmjaaSumTop

/-
  What CompareNum should answer, and what spec.l2Compare and spec.CompareNum answer.
-/
namespace Go.Proofs.Ytoiegaggekgmjaa
open Go.RowKit
set_option linter.unusedVariables false

def sgnZ (z : Int) : Int := if z = 0 then 0 else if z < 0 then -1 else 1
def CmpNAns (a b : ByteArray) (e : Ending) : Prop :=
  ((okN a.data.toList && okN b.data.toList) = true ∧ e = .returned (.tuple #[.int .i64 (sgnZ (addZ true a b)), .bool true])) ∨ ((okN a.data.toList && okN b.data.toList) = false ∧ e = .returned (.tuple #[.int .i64 0, .bool false]))
theorem CmpNAns.same {a b : ByteArray} {e e' : Ending} (h : CmpNAns a b e) (h' : CmpNAns a b e') : ∃ (c : Int) (o : Bool), e = .returned (.tuple #[.int .i64 c, .bool o]) ∧ e' = .returned (.tuple #[.int .i64 c, .bool o]) := by
  rcases h with ⟨g1, h⟩ | ⟨g1, h⟩ <;> rcases h' with ⟨g2, h'⟩ | ⟨g2, h'⟩
  · exact ⟨_, _, h, h'⟩
  · rw [g1] at g2; cases g2
  · rw [g1] at g2; cases g2
  · exact ⟨_, _, h, h'⟩
theorem good_size2 {s : ByteArray} (h : goodB s.data.toList = true) : s.size ≤ 600 := by have := good_len h; simpa using this
theorem mul_size2 {s : ByteArray} {n m : Nat} (hc : canonB s.data.toList = true) (hv : dval s.data.toList = n * m) (hn : n < 10 ^ 600) (hm : m < 10 ^ 600) : s.size ≤ 1200 := by
  have h1 := mul_lt_pow 600 600 hn hm
  rw [← hv] at h1
  have := (canon_len_le hc (600 + 600) (by omega)).2 h1
  simpa using this

set_option maxHeartbeats 1000000 in
set_option maxRecDepth 100000 in
theorem l2Compare_any (a b : ByteArray) (w : World) (hsa : a.size ≤ maxLen) (hsb : b.size ≤ maxLen) (ha : okN a.data.toList = true) (hb : okN b.data.toList = true) :
    Calls Try.prog 65 #[.string a, .string b] w fun e w' => e = .returned (.int .i64 (sgnZ (addZ true a b))) ∧ Below w.heap.size w w' := by
  have HOA := hideT ha
  have HOB := hideT hb
  clear ha hb
  go_enter Try.func65, Try.ntmps65
  go_wp2_with fail
  refine (l2Parts_any a _ hsa).mono ?_
  rintro e w1 ⟨⟨g, t, u, rfl, hRa⟩, hW1⟩
  rw [HOA.out] at hRa ⊢
  have HRA := hideT hRa
  clear hRa
  go_wp2_with fail
  refine (l2Parts_any b _ hsb).mono ?_
  rintro e w2 ⟨⟨g', t', u', rfl, hRb⟩, hW2⟩
  rw [HOB.out] at hRb ⊢
  have HRB := hideT hRb
  have hB2 : Below w.heap.size w w2 := hW1.trans (hW2.mono hW1.size)
  clear hRb hW1 hW2
  obtain ⟨hg, g1, v1, g2, v2⟩ := HRA.out (by first | rfl | trivial)
  obtain ⟨hg', g1', v1', g2', v2'⟩ := HRB.out (by first | rfl | trivial)
  have ht := good_size2 g1
  have hu := good_size2 g2
  have ht' := good_size2 g1'
  have hu' := good_size2 g2'
  have HG := hideT (And.intro hg hg')
  have HC := hideT (And.intro (And.intro (good_canon g1) (good_canon g2)) (And.intro (good_canon g1') (good_canon g2')))
  have HV := hideT (And.intro (And.intro v1 v2) (And.intro v1' v2'))
  have HL := hideT (And.intro (And.intro (good_lt' g1) (good_lt' g2)) (And.intro (good_lt' g1') (good_lt' g2')))
  clear hg g1 v1 g2 v2 hg' g1' v1' g2' v2' HRA HRB
  go_wp2_with fail
  refine (l1Mul_any t u' _ ht hu' HC.out.1.1 HC.out.2.2).mono ?_
  rintro e w3 ⟨x, rfl, hcx, hvx, hW3⟩
  have hxs : x.size ≤ 1200 := mul_size2 hcx hvx HL.out.1.1 HL.out.2.2
  have HX := hideT (And.intro hcx hvx)
  have hB3 : Below w.heap.size w w3 := hB2.trans (hW3.mono hB2.size)
  clear hcx hvx hW3 hB2
  go_wp2_with fail
  refine (l1Mul_any t' u _ ht' hu HC.out.2.1 HC.out.1.2).mono ?_
  rintro e w4 ⟨y, rfl, hcy, hvy, hW4⟩
  have hys : y.size ≤ 1200 := mul_size2 hcy hvy HL.out.2.1 HL.out.1.2
  have HY := hideT (And.intro hcy hvy)
  have hB4 : Below w.heap.size w w4 := hB3.trans (hW4.mono hB3.size)
  clear hcy hvy hW4 hB3
  go_wp2_with fail
  refine (l2Sum_any g (!g') x y _ (by omega) (by omega) HX.out.1 HY.out.1).mono ?_
  rintro e w5 ⟨⟨h, s, rfl, hcs, hvs⟩, hW5⟩
  have h1 : sg h (dval s.data.toList) = addZ true a b := by
    rw [hvs, HX.out.2, HY.out.2, HV.out.1.1, HV.out.1.2, HV.out.2.1, HV.out.2.2, topZ_eq, HG.out.1, HG.out.2]
    unfold addZ
    cases negN b.data.toList <;> rfl
  have hB5 : Below w.heap.size w w5 := hB4.trans (hW5.mono hB4.size)
  by_cases hz : s.data.toList = [48]
  · have HE : Hid (sgnZ (addZ true a b) = 0) := by
      rw [(canon_zero hcs).2 hz] at h1
      unfold Hid sgnZ
      rw [← h1]; cases h <;> rfl
    have hz' : (s.toList == [48]) = true := str_eq hz
    clear hz h1 hcs hvs hW5 hB4
    go_wp2
    go_ret
    exact ⟨by rw [HE.out]; rfl, hB5⟩
  · have h0 : dval s.data.toList ≠ 0 := fun e => hz ((canon_zero hcs).1 e)
    have hz' : (s.toList == [48]) = false := str_ne hz
    cases h with
    | true =>
      have HE : Hid (sgnZ (addZ true a b) = -1) := by
        unfold Hid sgnZ
        rw [← h1]
        simp only [sg, if_true]
        rw [if_neg (by omega), if_pos (by omega)]
      clear hz h0 h1 hcs hvs hW5 hB4
      go_wp2
      go_ret
      exact ⟨by rw [HE.out]; rfl, hB5⟩
    | false =>
      have HE : Hid (sgnZ (addZ true a b) = 1) := by
        unfold Hid sgnZ
        rw [← h1]
        simp only [sg, Bool.false_eq_true, if_false]
        rw [if_neg (by omega), if_neg (by omega)]
      clear hz h0 h1 hcs hvs hW5 hB4
      go_wp2
      go_ret
      exact ⟨by rw [HE.out]; rfl, hB5⟩

end Go.Proofs.Ytoiegaggekgmjaa

/-
  What compare of impl's fractions and impl.CompareNum answer.
-/
namespace Go.Proofs.Ytoiegaggekgmjaa
open Go.RowKit
set_option linter.unusedVariables false

theorem sgn_of {Z : Int} {i : Nat} {r : List Int} (h : Rep Z.natAbs i r) : sgn (decide (Z < 0)) i = sgnZ Z := by
  have hz := h.zero_iff
  unfold sgn sgnZ
  by_cases e : i = 0
  · rw [if_pos e, if_pos (by have := hz.1 e; omega)]
  · have e2 : ¬ Z = 0 := fun e' => e (hz.2 (by omega))
    rw [if_neg e, if_neg e2]
    by_cases hn : Z < 0
    · rw [decide_eq_true hn, if_pos rfl, if_pos hn]
    · rw [decide_eq_false hn, if_neg (by decide), if_neg hn]

end Go.Proofs.Ytoiegaggekgmjaa
