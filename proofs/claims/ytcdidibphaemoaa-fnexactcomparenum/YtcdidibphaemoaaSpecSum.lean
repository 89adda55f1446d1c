/-
  What spec.l2Sum answers: whole numbers with their signs are added.
-/
import Derived.Test.YtcdidibphaemoaaSpecAdd
import Derived.Test.YtcdidibphaemoaaSpecSub
import Derived.Test.YtcdidibphaemoaaFlt
namespace Go.Proofs.Ytcdidibphaemoaa
open Go.RowKit
set_option linter.unusedVariables false

theorem add_lt_pow2 (k : Nat) {a b : Nat} (ha : a < 10 ^ k) (hb : b < 10 ^ k) : a + b < 10 ^ (k + 1) := by
  rw [Nat.pow_succ]; omega
theorem sum_size (k : Nat) (hk : 1 ≤ k) {s a b : ByteArray} (hc : canonB s.data.toList = true) (ha : canonB a.data.toList = true) (hb : canonB b.data.toList = true) (hsa : a.size ≤ k) (hsb : b.size ≤ k) (hv : dval s.data.toList ≤ dval a.data.toList + dval b.data.toList) : s.size ≤ k + 1 := by
  have h1 := (canon_len_le ha k hk).1 (by simpa using hsa)
  have h2 := (canon_len_le hb k hk).1 (by simpa using hsb)
  have h3 := (canon_len_le hc (k + 1) (by omega)).2 (Nat.lt_of_le_of_lt hv (add_lt_pow2 k h1 h2))
  simpa using h3

/-- What l2Sum tells. -/
def SumsTo (g g' : Bool) (n m : Nat) (e : Ending) : Prop := ∃ (h : Bool) (s : ByteArray), e = .returned (.tuple #[.bool h, .string s]) ∧ canonB s.data.toList = true ∧ sg h (dval s.data.toList) = sg g n + sg g' m

set_option maxHeartbeats 400000 in
theorem l2Sum_same (g : Bool) (a b : ByteArray) (w : World) (hsa : a.size ≤ 4000) (hsb : b.size ≤ 4000) (ha : canonB a.data.toList = true) (hb : canonB b.data.toList = true) :
    Calls Try.prog 20 #[.bool g, .string a, .bool g, .string b] w fun e w' => SumsTo g g (dval a.data.toList) (dval b.data.toList) e ∧ Below w.heap.size w w' := by
  have HA := hideT ha
  have HB := hideT hb
  clear ha hb
  cases g with
  | true =>
    go_enter Try.func20, Try.ntmps20
    go_wp2_with fail
    refine (l1Add_any a b _ hsa hsb HA.out HB.out).mono ?_
    rintro e w1 ⟨s, rfl, hc, hv, hW1⟩
    have HV : Hid (SumsTo true true (dval a.data.toList) (dval b.data.toList) (.returned (.tuple #[.bool true, .string s]))) := ⟨true, s, rfl, hc, by simp only [sg, if_true, hv]; omega⟩
    clear hc hv
    go_wp2
    go_ret2
    exact ⟨HV.out, hW1⟩
  | false =>
    go_enter Try.func20, Try.ntmps20
    go_wp2_with fail
    refine (l1Add_any a b _ hsa hsb HA.out HB.out).mono ?_
    rintro e w1 ⟨s, rfl, hc, hv, hW1⟩
    have HV : Hid (SumsTo false false (dval a.data.toList) (dval b.data.toList) (.returned (.tuple #[.bool false, .string s]))) := ⟨false, s, rfl, hc, by simp only [sg, Bool.false_eq_true, if_false, hv]; omega⟩
    clear hc hv
    go_wp2
    go_ret2
    exact ⟨HV.out, hW1⟩

set_option maxHeartbeats 400000 in
theorem l2Sum_other (g : Bool) (a b : ByteArray) (w : World) (hsa : a.size ≤ 4000) (hsb : b.size ≤ 4000) (ha : canonB a.data.toList = true) (hb : canonB b.data.toList = true) :
    Calls Try.prog 20 #[.bool g, .string a, .bool (!g), .string b] w fun e w' => SumsTo g (!g) (dval a.data.toList) (dval b.data.toList) e ∧ Below w.heap.size w w' := by
  have HA := hideT ha
  have HB := hideT hb
  clear ha hb
  by_cases hle : dval b.data.toList ≤ dval a.data.toList
  · have HLE := hideT hle
    have hcm : ¬ cmpI (dval a.data.toList) (dval b.data.toList) < 0 := by unfold cmpI; split <;> (try split) <;> omega
    have hcp : 0 ≤ cmpI (dval a.data.toList) (dval b.data.toList) := by omega
    obtain ⟨c, hc⟩ : ∃ c, c = cmpI (dval a.data.toList) (dval b.data.toList) := ⟨_, rfl⟩
    rw [← hc] at hcm hcp
    have HC := hideT hc
    clear hle hc
    cases g with
    | true =>
      simp only [Bool.not_true]
      go_enter Try.func20, Try.ntmps20
      go_wp2_with fail
      refine (l1Compare_any a b _ (Nat.le_trans hsa (by decide)) (Nat.le_trans hsb (by decide)) HA.out HB.out).mono ?_
      rintro e w1 ⟨rfl, rfl⟩
      rw [← HC.out]
      go_wp2_with fail
      refine (l1Sub_any a b _ hsa hsb HA.out HB.out HLE.out).mono ?_
      rintro e w1 ⟨s, rfl, hc, hv, hW1⟩
      have HV : Hid (SumsTo true false (dval a.data.toList) (dval b.data.toList) (.returned (.tuple #[.bool true, .string s]))) := ⟨true, s, rfl, hc, by have := HLE.out; simp only [sg, if_true, Bool.false_eq_true, if_false, hv]; omega⟩
      clear hc hv
      go_wp2
      go_ret2
      exact ⟨HV.out, hW1⟩
    | false =>
      simp only [Bool.not_false]
      go_enter Try.func20, Try.ntmps20
      go_wp2_with fail
      refine (l1Compare_any a b _ (Nat.le_trans hsa (by decide)) (Nat.le_trans hsb (by decide)) HA.out HB.out).mono ?_
      rintro e w1 ⟨rfl, rfl⟩
      rw [← HC.out]
      go_wp2_with fail
      refine (l1Sub_any a b _ hsa hsb HA.out HB.out HLE.out).mono ?_
      rintro e w1 ⟨s, rfl, hc, hv, hW1⟩
      have HV : Hid (SumsTo false true (dval a.data.toList) (dval b.data.toList) (.returned (.tuple #[.bool false, .string s]))) := ⟨false, s, rfl, hc, by have := HLE.out; simp only [sg, if_true, Bool.false_eq_true, if_false, hv]; omega⟩
      clear hc hv
      go_wp2
      go_ret2
      exact ⟨HV.out, hW1⟩
  · have HLT := hideT (show dval a.data.toList ≤ dval b.data.toList by omega)
    have hcm : ¬ 0 ≤ cmpI (dval a.data.toList) (dval b.data.toList) := by rw [cmpI_lt (by omega)]; decide
    have hcp : cmpI (dval a.data.toList) (dval b.data.toList) < 0 := by omega
    obtain ⟨c, hc⟩ : ∃ c, c = cmpI (dval a.data.toList) (dval b.data.toList) := ⟨_, rfl⟩
    rw [← hc] at hcm hcp
    have HC := hideT hc
    clear hle hc
    cases g with
    | true =>
      simp only [Bool.not_true]
      go_enter Try.func20, Try.ntmps20
      go_wp2_with fail
      refine (l1Compare_any a b _ (Nat.le_trans hsa (by decide)) (Nat.le_trans hsb (by decide)) HA.out HB.out).mono ?_
      rintro e w1 ⟨rfl, rfl⟩
      rw [← HC.out]
      go_wp2_with fail
      refine (l1Sub_any b a _ hsb hsa HB.out HA.out HLT.out).mono ?_
      rintro e w1 ⟨s, rfl, hc, hv, hW1⟩
      have HV : Hid (SumsTo true false (dval a.data.toList) (dval b.data.toList) (.returned (.tuple #[.bool false, .string s]))) := ⟨false, s, rfl, hc, by have := HLT.out; simp only [sg, if_true, Bool.false_eq_true, if_false, hv]; omega⟩
      clear hc hv
      go_wp2
      go_ret2
      exact ⟨HV.out, hW1⟩
    | false =>
      simp only [Bool.not_false]
      go_enter Try.func20, Try.ntmps20
      go_wp2_with fail
      refine (l1Compare_any a b _ (Nat.le_trans hsa (by decide)) (Nat.le_trans hsb (by decide)) HA.out HB.out).mono ?_
      rintro e w1 ⟨rfl, rfl⟩
      rw [← HC.out]
      go_wp2_with fail
      refine (l1Sub_any b a _ hsb hsa HB.out HA.out HLT.out).mono ?_
      rintro e w1 ⟨s, rfl, hc, hv, hW1⟩
      have HV : Hid (SumsTo false true (dval a.data.toList) (dval b.data.toList) (.returned (.tuple #[.bool true, .string s]))) := ⟨true, s, rfl, hc, by have := HLT.out; simp only [sg, if_true, Bool.false_eq_true, if_false, hv]; omega⟩
      clear hc hv
      go_wp2
      go_ret2
      exact ⟨HV.out, hW1⟩

theorem l2Sum_any (g g' : Bool) (a b : ByteArray) (w : World) (hsa : a.size ≤ 4000) (hsb : b.size ≤ 4000) (ha : canonB a.data.toList = true) (hb : canonB b.data.toList = true) :
    Calls Try.prog 20 #[.bool g, .string a, .bool g', .string b] w fun e w' => SumsTo g g' (dval a.data.toList) (dval b.data.toList) e ∧ Below w.heap.size w w' := by
  cases g <;> cases g'
  · exact l2Sum_same false a b w hsa hsb ha hb
  · exact l2Sum_other false a b w hsa hsb ha hb
  · exact l2Sum_other true a b w hsa hsb ha hb
  · exact l2Sum_same true a b w hsa hsb ha hb
end Go.Proofs.Ytcdidibphaemoaa
