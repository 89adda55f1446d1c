/-
  Proved: for all arguments that can be read, laws.FnExactGoodTerm answers true (GoodTerm answers as its model), and its arguments read behind the call as before.
  No condition but the row's own. The frame is the one that the guide's program wrote.
-/
import Derived.Test.YtnnhedncdpfiaaaRows
import Derived.Test.YtnnhedncdpfiaaaTreeTop
import Derived.Test.YtnnhedncdpfiaaaSpecGoodT
import Derived.Test.YtnnhedncdpfiaaaTermArg
import Derived.WalkKit
import Derived.ProofKit
import Derived.OpenShut
import Derived.ShutString
import Derived.ChangeOld
import Derived.Below
import Derived.Carry
namespace Go.Proofs.Ytnnhedncdpfiaaa.fnExactGoodTerm
open Go.ChangeShapes Go.WideShapes Go.ChangeAt Go.RowKit
open Go.ChangeMaps (open_string shut_string)
set_option linter.unusedVariables false

theorem own : ownKnob Try.prog.godebug = none := by kernel_rfl

set_option maxHeartbeats 4000000 in
set_option maxRecDepth 100000 in
theorem walk (l : List (Int × Int × Int)) (v : Value) (w : World) (hv : SlR w v termL 3 l) (hl : l.length ≤ maxLen) :
    Calls Try.prog 3 #[v] w fun e w' => e = .returned (.bool true) ∧ Below w.heap.size w w' := by
  have HV := hideT' hv
  have HC1 := hideT' (szTermS_any l v 1048576 w hv (by omega) (by omega) hl)
  clear hv hl
  go_enter Try.func3, Try.ntmps3
  go_wp2_with fail
  refine HC1.out.mono ?_
  rintro e w1 ⟨⟨r, rfl, hr⟩, hw1⟩
  subst hw1
  rcases hr with rfl | ⟨hr0, hr1, hlen⟩
  · go_wp2
    go_ret
    exact ⟨rfl, Below.refl _ _⟩
  have hrn : ¬ r < 0 := by omega
  have hl1 : l.length ≤ 1048576 := by omega
  have HC2 := hideT' (toTermS_any l v w1 HV.out hl1)
  go_wp2_with fail
  refine HC2.out.mono ?_
  rintro e w2 ⟨⟨b2, rfl, hb2, hM2⟩, hB2⟩
  have HC3 := hideT' (specGoodTerm_any (ndsOf l) _ w2 hM2.nds (by rw [ndsOf_len]; exact hl1))
  obtain ⟨q, hq⟩ : ∃ q, q = goodS (ndsOf l) := ⟨_, rfl⟩
  rw [← hq] at HC3
  have HQ := hideT' hq
  clear hM2 hq
  go_wp2_with fail
  refine HC3.out.mono ?_
  rintro e w3 ⟨rfl, hB3⟩
  have hT3 := hB2.trans (hB3.mono hB2.size)
  have HC4 := hideT' (toTermS_any l v w3 (HV.out.below hT3) hl1)
  clear hB3 hB2
  go_wp2_with fail
  refine HC4.out.mono ?_
  rintro e w4 ⟨⟨b4, rfl, hb4, hM4⟩, hB4⟩
  have hT4 := hT3.trans (hB4.mono hT3.size)
  have HC5 := hideT' (implGoodTerm_any (ndsOf l) _ w4 hM4.nds (by rw [ndsOf_len]; exact hl1))
  rw [← HQ.out] at HC5
  have HM4 := hideT' hM4
  have hl4 := hM4.lt
  clear hM4 hB4
  go_wp2_with fail
  refine HC5.out.mono ?_
  rintro e w5 ⟨rfl, hB5⟩
  have hT5 := hT4.trans (hB5.mono hT4.size)
  have HM5 := hideT' (HM4.out.below hB5 hl4)
  have hqq : (q != q) = false := by cases q <;> rfl
  have HC6 := hideT' (toTermS_any l v w5 (HV.out.below hT5) hl1)
  have hl5 := HM5.out.lt
  clear hB5
  go_wp2_with fail
  refine HC6.out.mono ?_
  rintro e w6 ⟨⟨b6, rfl, hb6, hM6⟩, hB6⟩
  have hT6 := hT5.trans (hB6.mono hT5.size)
  have HC7 := hideT' (eqTermS_in _ _ l w6 hl1 ((HM5.out.below hB6 hl5).inR termL_len) (hM6.inR termL_len))
  clear hM6 hB6
  go_wp2_with fail
  refine HC7.out.mono ?_
  rintro e w7 ⟨rfl, hB7⟩
  have hT7 := hT6.trans (hB7.mono hT6.size)
  clear hB7
  go_wp2
  go_ret
  exact ⟨rfl, hT7⟩

set_option maxRecDepth 100000 in
theorem lifted (os : Os) (started : os.Started) (H : Type) (enc : TypeId × Value → H) :
    ReturnsInHanded {} Try.checked os 3 .any (Rows.fnExactGoodTermSpec.pre6 enc Try.prog Try.f3 Rows.fnExactGoodTermRow.domain false) (Rows.fnExactGoodTermSpec.post enc Try.prog Try.f3 false true false false) := by
  refine returnsInHanded_of_change (C := Try.checked) own started (by kernel_rfl) Try.func3
    (ChangeSpec.witness6 (enc := enc) (C := Try.checked) false ⟨#[], #[.slice none 0 0], []⟩ 8 (by kernel_rfl) (by kernel_rfl) (by kernel_rfl) (by kernel_rfl)) ?_
  intro W base args ds gs before hval0 hW hcnd _
  have hval : ∀ (j : Nat) t v, Try.f3.params[j]? = some t → args[j]? = some v → Value.okWide Try.prog W .any base t v := hval0
  have hW' := hW
  obtain ⟨p, q, hA0, hV, rfl, hfz, hnd⟩ := hW
  have hA : DataW.TrodAll enc Try.prog W 0 (fun _ => true) true Try.f3.params.toList args.toList ds p := hA0
  rw [Try.params3] at hA hval
  obtain ⟨v0, vs0, d0, ds0, p0, q0, hargs, rfl, rfl, h0, r0⟩ := trodAll_cons hA
  obtain ⟨rfl, rfl, rfl⟩ := trodAll_nil r0
  obtain rfl : args = #[v0] := by cases args; simp_all
  obtain ⟨rfl, rfl⟩ := trodVars_none hV
  obtain ⟨l0, g0, s0⟩ := open_terms (hval 0 22 v0 rfl rfl) h0
  clear hA0 hval0
  simp only [List.append_nil] at hW'
  have lt0 : ∀ x ∈ p0, x.block < W.heap.size := fun x hx => hW'.lt x (by simp [hx])
  refine (walk l0 v0 W g0 s0).mono fun e W' ⟨he, bel⟩ => ?_
  subst he
  exact ⟨_, rfl, _, _, _, [], _, [], hW', (trodAll_cons_mk (shut_bool Try.underlying4 _) trodAll_mk0), (trodAll_cons_mk (Below.trod laidOutR (by kernel_rfl) (of_decide_eq_true (by kernel_rfl)) h0 bel lt0) trodAll_mk0), rfl, bel.frame _, fun h => by cases h⟩

theorem over : Rows.fnExactGoodTermRow.holds Try.pinned (OpenSpec.ofChange Rows.fnExactGoodTermSpec) :=
  OpenClaim.holds_of_wide 3 Try.f3 rfl rfl rfl rfl rfl rfl rfl ⟨rfl, rfl, rfl, rfl, rfl⟩ rfl rfl rfl rfl rfl (by kernel_rfl) Try.func3 (by kernel_rfl)
    (of_decide_eq_true (by kernel_rfl)) (by unfold Func.isWrapper; first | (rw [if_pos (by decide +kernel)]; kernel_rfl) | (rw [if_neg (by decide +kernel)]; exact ⟨rfl, rfl⟩))
    (fun os started H enc _ => lifted os started H enc)

end Go.Proofs.Ytnnhedncdpfiaaa.fnExactGoodTerm

namespace Go.Proofs.Ytnnhedncdpfiaaa
theorem goodTerm_holds : Rows.FnExactGoodTermSaid := fnExactGoodTerm.over
#print axioms goodTerm_holds
end Go.Proofs.Ytnnhedncdpfiaaa
