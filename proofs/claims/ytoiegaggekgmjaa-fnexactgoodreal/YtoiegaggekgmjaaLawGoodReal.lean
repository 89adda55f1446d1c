/-
  Proved: for all arguments that can be read, laws.FnExactGoodReal answers true (GoodReal answers as its model), and its arguments read behind the call as before.
  No condition but the row's own. The frame is the one that the guide's program wrote.
-/
import Derived.Test.YtoiegaggekgmjaaRows
import Derived.Test.YtoiegaggekgmjaaSpecReal
import Derived.Test.YtoiegaggekgmjaaRealLaw
import Derived.WalkKit
import Derived.ProofKit
import Derived.OpenShut
import Derived.ShutString
import Derived.ChangeOld
import Derived.Below
import Derived.Carry
namespace Go.Proofs.Ytoiegaggekgmjaa.fnExactGoodReal
open Go.ChangeShapes Go.WideShapes Go.ChangeAt Go.RowKit
open Go.ChangeMaps (open_string shut_string)
set_option linter.unusedVariables false

theorem own : ownKnob Try.prog.godebug = none := by kernel_rfl

set_option maxHeartbeats 1000000 in
theorem walk (g : Bool) (m e : Int) (w : World) :
    Calls Try.prog 3 #[.agg #[.bool g, .int .i64 m, .int .i64 e]] w fun e' w' => e' = .returned (.bool true) ∧ Below w.heap.size w w' := by
  have hR := RowAt.new w 23 #[.bool g, .int .i64 m, .int .i64 e]
  have hB : Below w.heap.size w (w.alloc (.cells #[.bool g, .int .i64 m, .int .i64 e] 23)) := (Below.refl _ _).alloc (Nat.le_refl _) _
  have HK : Hid (∀ w', Below (w.heap.size + 1) (w.alloc (.cells #[.bool g, .int .i64 m, .int .i64 e] 23)) w' → w'.cell? ⟨w.heap.size, 0, none⟩ = some (.bool g) ∧ w'.cell? ⟨w.heap.size, 1, none⟩ = some (.int .i64 m) ∧ w'.cell? ⟨w.heap.size, 2, none⟩ = some (.int .i64 e) ∧ Below w.heap.size w w' ∧ w.heap.size + 1 ≤ w'.heap.size) := by
    intro w' h
    have hr := RowAt.below hR h (by omega)
    refine ⟨?_, ?_, ?_, hB.trans (h.mono (by omega)), by have := h.size; simpa using this⟩ <;> (rw [cell_of_row w' _ _ _ _ _ hr]; rfl)
  obtain ⟨q, hq⟩ : ∃ q, q = (finB m e || infB m e) := ⟨_, rfl⟩
  have HS := hideT' (fun w' => specGoodReal_any g m e w')
  have HI := hideT' (fun w' => implGoodReal_any g m e w')
  have HT := hideT' (fun w' => toReal_any g m e w')
  rw [← hq] at HS HI
  clear hR hB hq
  go_enter Try.func3, Try.ntmps3
  go_wp2_with fail
  refine (HT.out _).mono ?_
  rintro _ w1 ⟨rfl, hW1⟩
  have hX1 : Below (w.heap.size + 1) (w.alloc (.cells #[.bool g, .int .i64 m, .int .i64 e] 23)) w1 := hW1.mono (by simp)
  obtain ⟨_, _, _, _, hs1⟩ := HK.out w1 hX1
  go_wp2_with fail
  refine (HS.out _).mono ?_
  rintro _ w2 ⟨rfl, hW2⟩
  have hX2 := hX1.trans (hW2.mono hs1)
  obtain ⟨c0, c1, c2, _, hs2⟩ := HK.out w2 hX2
  clear hW1 hW2 hX1
  go_wp2_with fail
  refine (HT.out _).mono ?_
  rintro _ w3 ⟨rfl, hW3⟩
  have hX3 := hX2.trans (hW3.mono hs2)
  obtain ⟨_, _, _, _, hs3⟩ := HK.out w3 hX3
  clear hW3 hX2 c0 c1 c2
  go_wp2_with fail
  refine (HI.out _).mono ?_
  rintro _ w4 ⟨rfl, hW4⟩
  have hX4 := hX3.trans (hW4.mono hs3)
  obtain ⟨_, _, _, hB4, _⟩ := HK.out w4 hX4
  have hqq : (q != q) = false := by cases q <;> rfl
  clear hW4 hX3
  go_wp2
  go_ret
  exact ⟨rfl, hB4⟩


set_option maxRecDepth 100000 in
theorem lifted (os : Os) (started : os.Started) (H : Type) (enc : TypeId × Value → H) :
    ReturnsInHanded {} Try.checked os 3 .any (Rows.fnExactGoodRealSpec.pre6 enc Try.prog Try.f3 Rows.fnExactGoodRealRow.domain false) (Rows.fnExactGoodRealSpec.post enc Try.prog Try.f3 false true false false) := by
  refine returnsInHanded_of_change (C := Try.checked) own started (by kernel_rfl) Try.func3
    (ChangeSpec.witness6 (enc := enc) (C := Try.checked) false ⟨#[], #[.agg #[.bool false, .int .i64 0, .int .i64 0]], []⟩ 8 (by kernel_rfl) (by kernel_rfl) (by kernel_rfl) (by kernel_rfl)) ?_
  intro W base args ds gs before hval0 hW hcnd _
  have hval : ∀ (j : Nat) t v, Try.f3.params[j]? = some t → args[j]? = some v → Value.okWide Try.prog W .any base t v := hval0
  have hW' := hW
  obtain ⟨p, q, hA0, hV, rfl, hfz, hnd⟩ := hW
  have hA : DataW.TrodAll enc Try.prog W 0 (fun _ => true) true Try.f3.params.toList args.toList ds p := hA0
  rw [Try.params3] at hA hval
  obtain ⟨v0, vs0, d0, ds0, p0, q0, hargs, rfl, rfl, h0, r0⟩ := trodAll_cons hA
  obtain ⟨rfl, rfl, rfl⟩ := trodAll_nil r0
  obtain rfl : args = #[v0] := by cases args; simp_all
  obtain ⟨rfl, rfl⟩ := trodVars_none hV
  obtain ⟨g0, m0, e0, rfl⟩ := open_real (hval 0 23 v0 rfl rfl) h0
  clear hA0 hval0
  simp only [List.append_nil] at hW'
  have lt0 : ∀ x ∈ p0, x.block < W.heap.size := fun x hx => hW'.lt x (by simp [hx])
  refine (walk g0 m0 e0 W).mono fun e W' ⟨he, bel⟩ => ?_
  subst he
  exact ⟨_, rfl, _, _, _, [], _, [], hW', (trodAll_cons_mk (shut_bool Try.underlying4 _) trodAll_mk0), (trodAll_cons_mk (Below.trod laidOutR (by kernel_rfl) (of_decide_eq_true (by kernel_rfl)) h0 bel lt0) trodAll_mk0), rfl, bel.frame _, fun h => by cases h⟩

theorem over : Rows.fnExactGoodRealRow.holds Try.pinned (OpenSpec.ofChange Rows.fnExactGoodRealSpec) :=
  OpenClaim.holds_of_wide 3 Try.f3 rfl rfl rfl rfl rfl rfl rfl ⟨rfl, rfl, rfl, rfl, rfl⟩ rfl rfl rfl rfl rfl (by kernel_rfl) Try.func3 (by kernel_rfl)
    (of_decide_eq_true (by kernel_rfl)) (by unfold Func.isWrapper; first | (rw [if_pos (by decide +kernel)]; kernel_rfl) | (rw [if_neg (by decide +kernel)]; exact ⟨rfl, rfl⟩))
    (fun os started H enc _ => lifted os started H enc)

end Go.Proofs.Ytoiegaggekgmjaa.fnExactGoodReal

namespace Go.Proofs.Ytoiegaggekgmjaa
theorem goodReal_holds : Rows.FnExactGoodRealSaid := fnExactGoodReal.over
#print axioms goodReal_holds
end Go.Proofs.Ytoiegaggekgmjaa
