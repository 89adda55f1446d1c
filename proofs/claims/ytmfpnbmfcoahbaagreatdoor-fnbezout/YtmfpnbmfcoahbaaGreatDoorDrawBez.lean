/-
  What spec.DrawBezoutNat draws; sums and products of whole numbers that may be too long.
-/
import Derived.Test.YtmfpnbmfcoahbaaGreatDoorDrawNats
import Derived.Test.YtmfpnbmfcoahbaaGreatDoorBezMath
import Derived.Test.YtmfpnbmfcoahbaaGreatDoorChMath
namespace Go.Proofs.YtmfpnbmfcoahbaaGreatDoor
open Go.RowKit
set_option linter.unusedVariables false

set_option maxHeartbeats 1000000 in
set_option maxRecDepth 100000 in
theorem drawBezout_any (v : Value) (l : List Int) (w : World) (hC : Code w v l) :
    Calls Tryz.prog 4 #[v] w fun e w' => (∃ s t : ByteArray, e = .returned (.tuple #[.string s, .string t]) ∧ s.size ≤ 1000 ∧ t.size ≤ 1000) ∧ Below w.heap.size w w' := by
  have HC := hideT' hC
  clear hC
  go_enter Tryz.func4, Tryz.ntmps4
  go_wp2_with fail
  refine (drawCompareNat_any v l w HC.out).mono ?_
  rintro e w1 ⟨⟨s, t, rfl, hs, ht⟩, hB⟩
  go_wp2
  go_ret2
  exact ⟨⟨s, t, rfl, hs, ht⟩, hB⟩

theorem mulW_ok {a b : ByteArray} {x y : Int} {e : Ending} (ha : WT a x) (hb : WT b y) (h : MulNAns false a b e) : ∃ (s : ByteArray) (o : Bool), e = .returned (.tuple #[.string s, .bool o]) ∧ (o = true → WT s (x * y)) := by
  by_cases hlt : (x * y).natAbs < 10 ^ 600
  · obtain ⟨s, h1, h2⟩ := mulW ha hb hlt h
    exact ⟨s, true, h1, fun _ => h2⟩
  · obtain ⟨an, at', ab, ao⟩ := ha.parts
    obtain ⟨bn, bt, bb, bo⟩ := hb.parts
    have hT : mulTop false a b = (x * y).natAbs := by unfold mulTop; simp only [Bool.false_eq_true, if_false]; rw [at', bt, Int.natAbs_mul]
    have hB : mulBot false a b = 1 := by unfold mulBot; simp only [Bool.false_eq_true, if_false]; rw [ab, bb]
    have hok : mulOk false a b = true := by unfold mulOk; rw [ao, bo]; rfl
    rcases h with ⟨_, s, rfl, h1, _⟩ | ⟨h, _⟩
    · rw [hT, hB, Nat.gcd_one_right, Nat.div_one, Nat.div_one] at *
      have hd : (decide ((x * y).natAbs < 10 ^ 600) && decide (1 < 10 ^ 600)) = false := by rw [decide_eq_false hlt]; rfl
      rw [hd]
      exact ⟨s, false, rfl, fun h => by cases h⟩
    · rw [hok] at h; cases h
theorem addW_ok {a b : ByteArray} {x y : Int} {e : Ending} (ha : WT a x) (hb : WT b y) (h : AddNAns false a b e) : ∃ (s : ByteArray) (o : Bool), e = .returned (.tuple #[.string s, .bool o]) ∧ (o = true → WT s (x + y)) := by
  obtain ⟨an, at', ab, ao⟩ := ha.parts
  obtain ⟨bn, bt, bb, bo⟩ := hb.parts
  have hT : addZ false a b = x + y := by
    unfold addZ topZ
    rw [an, at', ab, bn, bt, bb, Bool.bne_false, sg_abs_of, sg_abs_of]; simp
  have hB : addBot a b = 1 := by unfold addBot; rw [ab, bb]
  rcases h with ⟨_, s, rfl, h1, _⟩ | ⟨h, _⟩
  · rw [hT, hB, Nat.gcd_one_right, Nat.div_one, Nat.div_one] at *
    by_cases hlt : (x + y).natAbs < 10 ^ 600
    · have hd : (decide ((x + y).natAbs < 10 ^ 600) && decide (1 < 10 ^ 600)) = true := by rw [decide_eq_true hlt, decide_eq_true one_lt_600]; rfl
      rw [hd] at h1 ⊢
      exact ⟨s, true, rfl, fun _ => WT.of_num hlt rfl rfl (h1 rfl)⟩
    · have hd : (decide ((x + y).natAbs < 10 ^ 600) && decide (1 < 10 ^ 600)) = false := by rw [decide_eq_false hlt]; rfl
      rw [hd]
      exact ⟨s, false, rfl, fun h => by cases h⟩
  · rw [ao, bo] at h; cases h
end Go.Proofs.YtmfpnbmfcoahbaaGreatDoor
