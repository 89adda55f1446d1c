/-
  What GoodReal, rank, realAt and NextReal of impl answer.
-/
import Derived.Test.YtoiegaggekgmjaaDoorRealMem
import Derived.Test.YtoiegaggekgmjaaDoorRecs
namespace Go.Proofs.YtoiegaggekgmjaaDoor
open Go.RowKit
set_option linter.unusedVariables false

/-- The rank of a good real, below 0 with its sign. -/
def rankA (m e : Int) : Int := if infB m e = true then 1360087087465889792 else (e + 150) * 4503599627370496 + m
def rankZ (g : Bool) (m e : Int) : Int := if g then -(rankA m e) else rankA m e

set_option maxHeartbeats 1000000 in
theorem realAt_any (g : Bool) (R : Nat) (r : Int) (w : World) (hr : r = (R : Int)) (hb : r ≤ 9000000000000000000) :
    Calls Tryd.prog 9 #[.bool g, .int .i64 r] w fun e' w' => e' = .returned (.agg #[.bool g, .int .i64 (manOf R : Nat), .int .i64 (expOf R)]) ∧ Below w.heap.size w w' := by
  have hz := zero_real.1
  have hB : Below w.heap.size w (w.alloc (.cells #[.bool false, .int .i64 0, .int .i64 0] 23)) := (Below.refl _ _).alloc (Nat.le_refl _) _
  by_cases h : (1360087087465889792 : Int) ≤ r
  · have hm : ((manOf R : Nat) : Int) = 0 := by unfold manOf; rw [if_pos (by omega)]; rfl
    have he : expOf R = 151 := by unfold expOf; rw [if_pos (by omega)]
    rw [hm, he]
    clear hm he hr
    go_enter Tryd.func9, Tryd.ntmps9
    go_wp2
    exact bodyPost_ret (res_real Tryd.results9 _ _ w.heap.size _ _ _ rfl (RowAt.new w _ _)) rfl ⟨rfl, (Below.refl _ _).alloc (Nat.le_refl _) _⟩
  · have hn : ¬ 302 * 4503599627370496 ≤ R := by omega
    have hr0 : 0 ≤ r := by omega
    have hq : r.tdiv 4503599627370496 = r / 4503599627370496 := Int.tdiv_eq_ediv_of_nonneg hr0
    obtain ⟨q, hq'⟩ : ∃ q, r / 4503599627370496 = q := ⟨_, rfl⟩
    have hq0 : 0 ≤ q := by omega
    have hq1 : q ≤ 302 := by omega
    by_cases h1 : q - 1 < 0
    · have hm : ((manOf R : Nat) : Int) = r := by unfold manOf; rw [if_neg hn]; omega
      have he : expOf R = -150 := by unfold expOf; rw [if_neg hn]; omega
      rw [hm, he]
      clear hm he hr hn
      go_enter Tryd.func9, Tryd.ntmps9
      go_wp2
      exact bodyPost_ret (res_real Tryd.results9 _ _ w.heap.size _ _ _ rfl (RowAt.new w _ _)) rfl ⟨rfl, (Below.refl _ _).alloc (Nat.le_refl _) _⟩
    · obtain ⟨y, hy⟩ : ∃ y, (q - 1) * 4503599627370496 = y := ⟨_, rfl⟩
      have hm : ((manOf R : Nat) : Int) = r - y := by unfold manOf; rw [if_neg hn]; omega
      have he : expOf R = q - 1 - 150 := by unfold expOf; rw [if_neg hn]; omega
      rw [hm, he]
      have hy0 : 0 ≤ y := by omega
      have hy1 : y ≤ r := by omega
      clear hm he hr hn
      go_enter Tryd.func9, Tryd.ntmps9
      go_wp2
      exact bodyPost_ret (res_real Tryd.results9 _ _ w.heap.size _ _ _ rfl (RowAt.new w _ _)) rfl ⟨rfl, (Below.refl _ _).alloc (Nat.le_refl _) _⟩

/-- What NextReal answers. -/
def nextV (g : Bool) (m e : Int) : Value :=
  if finB m e = true ∧ rankZ g m e + 1 ≠ 1360087087465889792 then .tuple #[.agg #[.bool (decide (rankZ g m e + 1 < 0)), .int .i64 (manOf (rankZ g m e + 1).natAbs : Nat), .int .i64 (expOf (rankZ g m e + 1).natAbs)], .bool true]
  else .tuple #[.agg #[.bool false, .int .i64 0, .int .i64 0], .bool false]
theorem rankZ_bd {g : Bool} {m e : Int} (h : finB m e = true) : -1360087087465889792 < rankZ g m e ∧ rankZ g m e < 1360087087465889792 := by
  obtain ⟨n, rfl, hf⟩ := (finB_iff m e).1 h
  have hi : infB (n : Int) e = false := by
    unfold infB FinR at *
    simp
    omega
  unfold rankZ rankA FinR at *
  rw [hi]
  cases g <;> simp <;> omega

end Go.Proofs.YtoiegaggekgmjaaDoor
