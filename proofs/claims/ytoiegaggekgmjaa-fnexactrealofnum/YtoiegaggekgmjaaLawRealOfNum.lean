/-
  Proved: for all arguments that can be read, laws.FnExactRealOfNum answers true (RealOfNum answers as its model), and its arguments read behind the call as before.
  No condition but the row's own. The frame is the one that the guide's program wrote.
-/
import Derived.Test.YtoiegaggekgmjaaRows
import Derived.Test.YtoiegaggekgmjaaOfNum
import Derived.Test.YtoiegaggekgmjaaRealLaw
import Derived.WalkKit
import Derived.ProofKit
import Derived.OpenShut
import Derived.ShutString
import Derived.ChangeOld
import Derived.Below
import Derived.Carry
namespace Go.Proofs.Ytoiegaggekgmjaa.fnExactRealOfNum
open Go.ChangeShapes Go.WideShapes Go.ChangeAt Go.RowKit
open Go.ChangeMaps (open_string shut_string)
set_option linter.unusedVariables false

theorem own : ownKnob Try.prog.godebug = none := by kernel_rfl

set_option maxHeartbeats 2000000 in
set_option maxRecDepth 100000 in
theorem walk (a0 : ByteArray) (w0 : a0.size ≤ maxLen) (w : World) :
    Calls Try.prog 4 #[.string a0] w fun e w' => e = .returned (.bool true) ∧ Below w.heap.size w w' := by
  have hb := w0
  unfold maxLen at hb
  have hz := zero_real.1
  by_cases h : (1048576 : Int) < (a0.size : Int)
  · go_enter Try.func4, Try.ntmps4
    go_wp2
    go_ret
    exact ⟨rfl, Below.refl _ _⟩
  have HS := hideT' (specOfNum_any a0 w w0)
  have HI := hideT' (fun w' => implOfNum_any a0 w' w0)
  go_enter Try.func4, Try.ntmps4
  go_wp2_with fail
  refine HS.out.mono ?_
  rintro e w1 ⟨hA, hW1⟩
  have HA := hideT' hA
  obtain ⟨a, b, c, d, he, _⟩ := hA.same hA
  subst he
  clear hA HS
  have hRa : RowAt (w1.alloc (.cells #[.bool a, .int .i64 b, .int .i64 c] 25)) w1.heap.size 25 #[.bool a, .int .i64 b, .int .i64 c] := RowAt.new _ _ _
  have hBa : Below w.heap.size w (w1.alloc (.cells #[.bool a, .int .i64 b, .int .i64 c] 25)) := hW1.alloc hW1.size _
  have HE := hideT' (fun w' => eqReal_any a b c w')
  have hd : (d != d) = false := by cases d <;> rfl
  have hs0 := hW1.size
  clear hW1
  go_wp2_with fail
  refine (HI.out _).mono ?_
  rintro e w2 ⟨hB, hW2⟩
  obtain ⟨a', b', c', d', he1, he2⟩ := HA.out.same hB
  subst he2
  have hR2 := RowAt.below hRa hW2 (by simp)
  have hs2 : w1.heap.size + 1 ≤ w2.heap.size := by have := hW2.size; simpa using this
  have hB2 : Below w.heap.size w w2 := hBa.trans (hW2.mono (by simp; omega))
  have hRn := RowAt.old hR2 (.cells #[.bool a, .int .i64 b, .int .i64 c] 25)
  have ka : (w2.alloc (.cells #[.bool a, .int .i64 b, .int .i64 c] 25)).cell? ⟨w1.heap.size, 0, none⟩ = some (.bool a) := by rw [cell_of_row _ _ _ _ _ _ hRn]; rfl
  have kb : (w2.alloc (.cells #[.bool a, .int .i64 b, .int .i64 c] 25)).cell? ⟨w1.heap.size, 1, none⟩ = some (.int .i64 b) := by rw [cell_of_row _ _ _ _ _ _ hRn]; rfl
  have kc : (w2.alloc (.cells #[.bool a, .int .i64 b, .int .i64 c] 25)).cell? ⟨w1.heap.size, 2, none⟩ = some (.int .i64 c) := by rw [cell_of_row _ _ _ _ _ _ hRn]; rfl
  have hBn : Below w.heap.size w (w2.alloc (.cells #[.bool a, .int .i64 b, .int .i64 c] 25)) := hB2.alloc hB2.size _
  clear he1 hB hRa hBa hW2 hR2 hRn HI HA
  go_wp2_with fail
  refine (HE.out _).mono ?_
  rintro _ w3 ⟨rfl, hW3⟩
  have hBz : Below w.heap.size w w3 := hBn.trans (hW3.mono (by simp; have := hB2.size; omega))
  clear ka kb kc hW3
  go_wp2
  go_ret
  exact ⟨rfl, hBz⟩


set_option maxRecDepth 100000 in
theorem lifted (os : Os) (started : os.Started) (H : Type) (enc : TypeId × Value → H) :
    ReturnsInHanded {} Try.checked os 4 .any (Rows.fnExactRealOfNumSpec.pre6 enc Try.prog Try.f4 Rows.fnExactRealOfNumRow.domain false) (Rows.fnExactRealOfNumSpec.post enc Try.prog Try.f4 false true false false) := by
  refine returnsInHanded_of_change (C := Try.checked) own started (by kernel_rfl) Try.func4
    (ChangeSpec.witness6 (enc := enc) (C := Try.checked) false ⟨#[], #[.string ByteArray.empty], []⟩ 8 (by kernel_rfl) (by kernel_rfl) (by kernel_rfl) (by kernel_rfl)) ?_
  intro W base args ds gs before hval0 hW hcnd _
  have hval : ∀ (j : Nat) t v, Try.f4.params[j]? = some t → args[j]? = some v → Value.okWide Try.prog W .any base t v := hval0
  have hW' := hW
  obtain ⟨p, q, hA0, hV, rfl, hfz, hnd⟩ := hW
  have hA : DataW.TrodAll enc Try.prog W 0 (fun _ => true) true Try.f4.params.toList args.toList ds p := hA0
  rw [Try.params4] at hA hval
  obtain ⟨v0, vs0, d0, ds0, p0, q0, hargs, rfl, rfl, h0, r0⟩ := trodAll_cons hA
  obtain ⟨rfl, rfl, rfl⟩ := trodAll_nil r0
  obtain rfl : args = #[v0] := by cases args; simp_all
  obtain ⟨rfl, rfl⟩ := trodVars_none hV
  obtain ⟨a0, rfl, rfl, rfl, w0⟩ := open_string Try.underlying9 (hval 0 9 v0 rfl rfl) h0
  clear hA0 hval0
  simp only [List.append_nil] at hW'
  refine (walk a0 w0 W).mono fun e W' ⟨he, bel⟩ => ?_
  subst he
  exact ⟨_, rfl, _, _, _, [], _, [], hW', (trodAll_cons_mk (shut_bool Try.underlying4 _) trodAll_mk0), (trodAll_cons_mk (shut_string Try.underlying9 w0) trodAll_mk0), rfl, bel.frame _, fun h => by cases h⟩

theorem over : Rows.fnExactRealOfNumRow.holds Try.pinned (OpenSpec.ofChange Rows.fnExactRealOfNumSpec) :=
  OpenClaim.holds_of_wide 4 Try.f4 rfl rfl rfl rfl rfl rfl rfl ⟨rfl, rfl, rfl, rfl, rfl⟩ rfl rfl rfl rfl rfl (by kernel_rfl) Try.func4 (by kernel_rfl)
    (of_decide_eq_true (by kernel_rfl)) (by unfold Func.isWrapper; first | (rw [if_pos (by decide +kernel)]; kernel_rfl) | (rw [if_neg (by decide +kernel)]; exact ⟨rfl, rfl⟩))
    (fun os started H enc _ => lifted os started H enc)

end Go.Proofs.Ytoiegaggekgmjaa.fnExactRealOfNum

namespace Go.Proofs.Ytoiegaggekgmjaa
theorem realOfNum_holds : Rows.FnExactRealOfNumSaid := fnExactRealOfNum.over
#print axioms realOfNum_holds
end Go.Proofs.Ytoiegaggekgmjaa
