/-
  Proved: for all arguments that can be read, laws.FnExactIsValue answers true (IsValue answers as its model, and its answer owns its memory), and its arguments read behind the call as before.
  No condition but the row's own. The frame is the one that the guide's program wrote.
-/
import Derived.Test.YtbnagagdboeedaaRows
import Derived.Test.YtbnagagdboeedaaClosed
import Derived.Test.YtbnagagdboeedaaTailIsValueA
import Derived.Test.YtbnagagdboeedaaMarkInt
import Derived.WalkKit
import Derived.ProofKit
import Derived.OpenShut
import Derived.ShutString
import Derived.ChangeOld
import Derived.Below
import Derived.Carry
namespace Go.Proofs.Ytbnagagdboeedaa.fnExactIsValue
open Go.ChangeShapes Go.WideShapes Go.ChangeAt Go.RowKit
open Go.ChangeMaps (open_string shut_string)
set_option linter.unusedVariables false

theorem own : ownKnob Try.prog.godebug = none := by kernel_rfl

set_option maxHeartbeats 16000000 in
set_option maxRecDepth 100000 in
theorem walk (l0 : List (Int × Int × Int)) (v0 : Value) (w : World) (hv0 : SlR w v0 termL 3 l0) (hm0 : l0.length ≤ maxLen) :
    Calls Try.prog 12 #[v0] w fun e w' => e = .returned (.bool true) ∧ Below w.heap.size w w' := by
  have HV0 := hideT' hv0
  clear hv0
  have hT0 := Below.refl w.heap.size w
  go_enter Try.func12, Try.ntmps12
  have HZ0 := hideT' (szTermS_any l0 v0 1048576 w HV0.out (by omega) (by omega) hm0)
  go_wp2_with fail
  refine HZ0.out.mono ?_
  rintro e w' ⟨⟨r0, rfl, hr0⟩, hw'⟩
  rw [hw']
  clear hw'
  rcases hr0 with rfl | ⟨hr00, hr01, hlen0⟩
  · go_wp2
    go_ret
    exact ⟨rfl, hT0⟩
  have hrn0 : ¬ r0 < 0 := by omega
  have hl0 : l0.length ≤ 1048576 := by omega
  have hn0 : (ndsOf l0).length ≤ 1048576 := by rw [ndsOf_len]; exact hl0
  obtain ⟨q, hq⟩ : ∃ q, q = IsV (ndsOf l0) := ⟨_, rfl⟩
  have HQ := hideT' hq
  clear hq
  have hqq : (q != q) = false := by cases q <;> rfl
  have HC1 := hideT' (toTermS_any l0 v0 w (HV0.out.below hT0) hl0)
  go_wp2_with fail
  refine HC1.out.mono ?_
  rintro e w2 ⟨⟨b3, rfl, hb4, hM5⟩, hB6⟩
  have hT7 := hT0.trans (hB6.mono hT0.size)
  have hs8 := hB6.size
  have HM9 := hideT' hM5
  have hltb3 := hM5.lt
  clear hM5 hB6
  have HC10 := hideT' (specIsValue_any (ndsOf l0) _ w2 (Go.Proofs.Ytbnagagdboeedaa.RecAt.nds HM9.out) hn0)
  go_wp2_with fail
  refine HC10.out.mono ?_
  rintro e w11 ⟨rfl, hB12⟩
  rw [← HQ.out]
  have hT13 := hT7.trans (hB12.mono hT7.size)
  have hs14 := hB12.size
  have HH15 := hideT' (HM9.out.below hB12 HM9.out.lt)
  clear hB12
  have HC16 := hideT' (toTermS_any l0 v0 w11 (HV0.out.below hT13) hl0)
  go_wp2_with fail
  refine HC16.out.mono ?_
  rintro e w17 ⟨⟨b18, rfl, hb19, hM20⟩, hB21⟩
  have hT22 := hT13.trans (hB21.mono hT13.size)
  have hs23 := hB21.size
  have HM24 := hideT' hM20
  have hltb18 := hM20.lt
  clear hM20 hB21
  have HC25 := hideT' (implIsValue_any (ndsOf l0) _ w17 (Go.Proofs.Ytbnagagdboeedaa.RecAt.nds HM24.out) hn0)
  go_wp2_with fail
  refine HC25.out.mono ?_
  rintro e w26 ⟨rfl, hB27⟩
  rw [← HQ.out]
  have hT28 := hT22.trans (hB27.mono hT22.size)
  have hs29 := hB27.size
  have HH30 := hideT' (HM24.out.below hB27 HM24.out.lt)
  clear hB27
  have HC31 := hideT' (toTermS_any l0 v0 w26 (HV0.out.below hT28) hl0)
  go_wp2_with fail
  refine HC31.out.mono ?_
  rintro e w32 ⟨⟨b33, rfl, hb34, hM35⟩, hB36⟩
  have hT37 := hT28.trans (hB36.mono hT28.size)
  have hs38 := hB36.size
  have HH39 := hideT' (HH30.out.below hB36 HH30.out.lt)
  have HM40 := hideT' hM35
  have hltb33 := hM35.lt
  clear hM35 hB36
  have HC41 := hideT' (eqTermS_in (slR b18 l0) (slR b33 l0) l0 w32 hl0 (HH39.out.inR termL_len) (HM40.out.inR termL_len))
  go_wp2_with fail
  refine HC41.out.mono ?_
  rintro e w42 ⟨rfl, hB43⟩
  have hT44 := hT37.trans (hB43.mono hT37.size)
  have hs45 := hB43.size
  have HH46 := hideT' (HH39.out.below hB43 HH39.out.lt)
  have HH47 := hideT' (HM40.out.below hB43 HM40.out.lt)
  clear hB43
  go_wp2
  go_ret
  exact ⟨rfl, hT44⟩

set_option maxRecDepth 100000 in
theorem lifted (os : Os) (started : os.Started) (H : Type) (enc : TypeId × Value → H) :
    ReturnsInHanded {} Try.checked os 12 .any (Rows.fnExactIsValueSpec.pre6 enc Try.prog Try.f12 Rows.fnExactIsValueRow.domain false) (Rows.fnExactIsValueSpec.post enc Try.prog Try.f12 false true false false) := by
  refine returnsInHanded_of_change (C := Try.checked) own started (by kernel_rfl) Try.func12
    (ChangeSpec.witness6 (enc := enc) (C := Try.checked) false ⟨#[], #[.slice none 0 0], []⟩ 8 (by kernel_rfl) (by kernel_rfl) (by kernel_rfl) (by kernel_rfl)) ?_
  intro W base args ds gs before hval0 hW hcnd _
  have hval : ∀ (j : Nat) t v, Try.f12.params[j]? = some t → args[j]? = some v → Value.okWide Try.prog W .any base t v := hval0
  have hW' := hW
  obtain ⟨p, q, hA0, hV, rfl, hfz, hnd⟩ := hW
  have hA : DataW.TrodAll enc Try.prog W 0 (fun _ => true) true Try.f12.params.toList args.toList ds p := hA0
  rw [Try.params12] at hA hval
  obtain ⟨v0, vs0, d0, ds0, p0, q0, hargs, rfl, rfl, h0, r0⟩ := trodAll_cons hA
  obtain ⟨rfl, rfl, rfl⟩ := trodAll_nil r0
  obtain rfl : args = #[v0] := by cases args; simp_all
  obtain ⟨rfl, rfl⟩ := trodVars_none hV
  obtain ⟨l0, g0, s0⟩ := open_terms (hval 0 22 v0 rfl rfl) h0
  clear hA0 hval0
  simp only [List.append_nil] at hW'
  have lt0 : ∀ x ∈ p0, x.block < W.heap.size := fun x hx => hW'.lt x (by simp [hx])
  refine (walk l0 v0 W g0 s0).mono fun e W' ⟨he, bel⟩ => ?_
  subst he
  exact ⟨_, rfl, _, _, _, [], _, [], hW', (trodAll_cons_mk (shut_bool Try.underlying4 _) trodAll_mk0), (trodAll_cons_mk (Below.trod laidOutR (by kernel_rfl) (of_decide_eq_true (by kernel_rfl)) h0 bel lt0) trodAll_mk0), rfl, bel.frame _, fun h => by cases h⟩

theorem over : Rows.fnExactIsValueRow.holds Try.pinned (OpenSpec.ofChange Rows.fnExactIsValueSpec) :=
  OpenClaim.holds_of_wide 12 Try.f12 rfl rfl rfl rfl rfl rfl rfl ⟨rfl, rfl, rfl, rfl, rfl⟩ rfl rfl rfl rfl rfl (by kernel_rfl) Try.func12 (by kernel_rfl)
    (of_decide_eq_true (by kernel_rfl)) (by unfold Func.isWrapper; first | (rw [if_pos (by decide +kernel)]; kernel_rfl) | (rw [if_neg (by decide +kernel)]; exact ⟨rfl, rfl⟩))
    (fun os started H enc _ => lifted os started H enc)

end Go.Proofs.Ytbnagagdboeedaa.fnExactIsValue

namespace Go.Proofs.Ytbnagagdboeedaa
theorem isValue_holds : Rows.FnExactIsValueSaid := fnExactIsValue.over
#print axioms isValue_holds
end Go.Proofs.Ytbnagagdboeedaa
