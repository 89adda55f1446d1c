/-
  Proved: for all arguments that can be read, laws.FnExactCallsIn answers true (CallsIn answers as its model), and its arguments read behind the call as before.
  No condition but the row's own. The frame is the one that the guide's program wrote.
-/
import Derived.Test.YtkmjpebfaodfaaaRows
import Derived.Test.YtkmjpebfaodfaaaCalls
import Derived.Test.YtkmjpebfaodfaaaInsArg
import Derived.Test.YtkmjpebfaodfaaaMarkInstr
import Derived.WalkKit
import Derived.ProofKit
import Derived.OpenShut
import Derived.ShutString
import Derived.ChangeOld
import Derived.Below
import Derived.Carry
namespace Go.Proofs.Ytkmjpebfaodfaaa.fnExactCallsIn
open Go.ChangeShapes Go.WideShapes Go.ChangeAt Go.RowKit
open Go.ChangeMaps (open_string shut_string)
set_option linter.unusedVariables false

theorem own : ownKnob Try.prog.godebug = none := by kernel_rfl

set_option maxHeartbeats 1000000 in
set_option maxRecDepth 100000 in
theorem walk (l : List Ins) (v : Value) (w : World) (hv : SlR w v instrL 3 l) (hs : ∀ i, i < l.length → (l.getD i default).2.2.size ≤ maxLen) (hl : l.length ≤ maxLen) :
    Calls Try.prog 3 #[v] w fun e w' => e = .returned (.bool true) ∧ Below w.heap.size w w' := by
  have HV := hideT' hv
  have HS := hideT' hs
  clear hv hs
  go_enter Try.func3, Try.ntmps3
  go_wp2_with fail
  refine (szInstrS_any l v 1048576 _ HV.out HS.out (by omega) (by omega) hl).mono ?_
  rintro e w1 ⟨⟨r, rfl, hr⟩, hW1⟩
  rcases hr with rfl | ⟨hr0, hr1, hr2, hr4⟩
  · go_wp2
    go_ret
    exact ⟨rfl, hW1⟩
  · have hr3 : ¬ r < 0 := by omega
    have hl2 : l.length ≤ 1048576 := by omega
    have HZ : Hid (∀ i, i < l.length → (l.getD i default).2.2.size ≤ 1048576) := fun i hi => by have := hr4 i hi; omega
    clear hr4
    go_wp2_with fail
    refine (toInstrS_any l v w1 (HV.out.below hW1) hl2).mono ?_
    rintro e w2 ⟨⟨b, rfl, hb, hD⟩, hW2⟩
    have hB2 := hW1.trans (hW2.mono hW1.size)
    go_wp2_with fail
    refine (specCallsIn_any l _ w2 HZ.out hl2 (hD.inR instrL_len)).mono ?_
    rintro e w3 ⟨hA, hW3⟩
    have hB3 := hB2.trans (hW3.mono hB2.size)
    obtain ⟨x, y, o, he⟩ : ∃ (x y : Int) (o : Bool), callsA l = .returned (.tuple #[.int .i64 x, .int .i64 y, .bool o]) := ⟨_, _, _, rfl⟩
    rw [he] at hA
    subst hA
    have HE := hideT' he
    clear he hD
    go_wp2_with fail
    refine (toInstrS_any l v w3 (HV.out.below hB3) hl2).mono ?_
    rintro e w4 ⟨⟨c, rfl, hc, hD4⟩, hW4⟩
    have hB4 := hB3.trans (hW4.mono hB3.size)
    have hcl := hD4.lt
    go_wp2_with fail
    refine (implCallsIn_any l _ w4 HZ.out hl2 (hD4.inR instrL_len)).mono ?_
    rintro e w5 ⟨hA5, hW5⟩
    have hB5 := hB4.trans (hW5.mono hB4.size)
    have hD5 := hD4.below hW5 hcl
    have hcl5 := hD5.lt
    rw [HE.out] at hA5
    subst hA5
    clear hD4
    have hoo : (o != o) = false := by cases o <;> rfl
    have hxx : (x != x) = false := by simp
    have hyy : (y != y) = false := by simp
    go_wp2_with fail
    refine (toInstrS_any l v w5 (HV.out.below hB5) hl2).mono ?_
    rintro e w6 ⟨⟨d, rfl, hd, hD6⟩, hW6⟩
    have hB6 := hB5.trans (hW6.mono hB5.size)
    have hD7 := hD5.below hW6 hcl5
    go_wp2_with fail
    refine (eqInstrS_any c d l w6 hl2 hD7 hD6).mono ?_
    rintro e w7 ⟨rfl, hW7⟩
    have hB7 := hB6.trans (hW7.mono hB6.size)
    go_wp2
    go_ret
    exact ⟨rfl, hB7⟩

set_option maxRecDepth 100000 in
theorem lifted (os : Os) (started : os.Started) (H : Type) (enc : TypeId × Value → H) :
    ReturnsInHanded {} Try.checked os 3 .any (Rows.fnExactCallsInSpec.pre6 enc Try.prog Try.f3 Rows.fnExactCallsInRow.domain false) (Rows.fnExactCallsInSpec.post enc Try.prog Try.f3 false true false false) := by
  refine returnsInHanded_of_change (C := Try.checked) own started (by kernel_rfl) Try.func3
    (ChangeSpec.witness6 (enc := enc) (C := Try.checked) false ⟨#[], #[.slice none 0 0], []⟩ 8 (by kernel_rfl) (by kernel_rfl) (by kernel_rfl) (by kernel_rfl)) ?_
  intro W base args ds gs before hval0 hW hcnd _
  have hval : ∀ (j : Nat) t v, Try.f3.params[j]? = some t → args[j]? = some v → Value.okWide Try.prog W .any base t v := hval0
  have hW' := hW
  obtain ⟨p, q, hA0, hV, rfl, hfz, hnd⟩ := hW
  have hA : DataW.TrodAll enc Try.prog W 0 (fun _ => true) true Try.f3.params.toList args.toList ds p := hA0
  rw [Try.params3] at hA hval
  obtain ⟨v0, vs0, d0, ds0, p0, q0, hargs, rfl, rfl, h0, r0⟩ := trodAll_cons hA
  obtain ⟨rfl, rfl, rfl⟩ := trodAll_nil r0
  obtain rfl : args = #[v0] := by cases args; simp_all
  obtain ⟨rfl, rfl⟩ := trodVars_none hV
  obtain ⟨l0, g0, s0, m0⟩ := open_code (hval 0 22 v0 rfl rfl) h0
  clear hA0 hval0
  simp only [List.append_nil] at hW'
  have lt0 : ∀ x ∈ p0, x.block < W.heap.size := fun x hx => hW'.lt x (by simp [hx])
  refine (walk l0 v0 W g0 s0 m0).mono fun e W' ⟨he, bel⟩ => ?_
  subst he
  exact ⟨_, rfl, _, _, _, [], _, [], hW', (trodAll_cons_mk (shut_bool Try.underlying4 _) trodAll_mk0), (trodAll_cons_mk (Below.trod laidOutR (by kernel_rfl) (of_decide_eq_true (by kernel_rfl)) h0 bel lt0) trodAll_mk0), rfl, bel.frame _, fun h => by cases h⟩

theorem over : Rows.fnExactCallsInRow.holds Try.pinned (OpenSpec.ofChange Rows.fnExactCallsInSpec) :=
  OpenClaim.holds_of_wide 3 Try.f3 rfl rfl rfl rfl rfl rfl rfl ⟨rfl, rfl, rfl, rfl, rfl⟩ rfl rfl rfl rfl rfl (by kernel_rfl) Try.func3 (by kernel_rfl)
    (of_decide_eq_true (by kernel_rfl)) (by unfold Func.isWrapper; first | (rw [if_pos (by decide +kernel)]; kernel_rfl) | (rw [if_neg (by decide +kernel)]; exact ⟨rfl, rfl⟩))
    (fun os started H enc _ => lifted os started H enc)

end Go.Proofs.Ytkmjpebfaodfaaa.fnExactCallsIn

namespace Go.Proofs.Ytkmjpebfaodfaaa
theorem callsIn_holds : Rows.FnExactCallsInSaid := fnExactCallsIn.over
#print axioms callsIn_holds
end Go.Proofs.Ytkmjpebfaodfaaa
