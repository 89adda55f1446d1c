/-
  Proved: the tied card of laws.FnExactCombText: for all arguments that can be read it answers true (CombText answers as its model), and its arguments read behind the call as before.
  Condition, by the row: three tables of the library lie as the program's text lays them (the card ties them). The frame follows the guide's own.
-/
import Derived.Test.YtgolfbjfopoeeaaDoorRows
import Derived.Test.YtgolfbjfopoeeaaDoorCards
import Derived.Test.YtgolfbjfopoeeaaDoorTie
import Derived.Test.YtgolfbjfopoeeaaDoorHeapLaid
import Derived.Test.YtgolfbjfopoeeaaDoorTailCombTextC
import Derived.WalkKit
import Derived.ProofKit
import Derived.OpenShut
import Derived.ShutString
import Derived.ChangeOld
import Derived.Below
import Derived.Deep.DeepHandedRow
import Derived.SevenTiedAt
import Derived.Carry
namespace Go.Proofs.YtgolfbjfopoeeaaDoor.CB.fnExactCombText
open Go.ChangeShapes Go.WideShapes Go.ChangeAt Go.RowKit
open Go.ChangeMaps (open_string shut_string)
set_option linter.unusedVariables false

set_option maxHeartbeats 2000000 in
set_option maxRecDepth 100000 in
theorem walk (l : List (Int × Int × Int)) (v : Value) (w : World) (hv : SlR w v combL 3 l) (hl : l.length ≤ maxLen) (hT : TabH w.heap.size w) :
    Calls Tryd.prog 5 #[v] w fun e w' => e = .returned (.bool true) ∧ Below w.heap.size w w' := by
  have HV := hideT' hv
  have HT := hideT' hT
  clear hv hT
  have HZ := hideT' (szCombS_any l v 1048576 w HV.out (by omega) (by omega) hl)
  go_enter Tryd.func5, Tryd.ntmps5
  go_wp2_with fail
  refine HZ.out.mono ?_
  rintro e w1 ⟨⟨r, rfl, hr⟩, hw'⟩
  rw [hw']
  clear hw'
  rcases hr with rfl | ⟨hr0, hr1, hlen⟩
  · go_wp2
    go_ret
    exact ⟨rfl, Below.refl _ _⟩
  · have hr3 : ¬ r < 0 := by omega
    have hl2 : l.length ≤ 1048576 := by omega
    have hn : (ndsOf l).length ≤ 1048576 := by rw [ndsOf_len]; exact hl2
    go_wp2_with fail
    refine (toCombS_any l v w HV.out hl2).mono ?_
    rintro e w2 ⟨⟨b, rfl, hb, hD⟩, hB2⟩
    have HC := hideT' (specCombText_any (ndsOf l) _ w2 (Go.Proofs.YtgolfbjfopoeeaaDoor.CB.RecAt.nds hD) hn)
    obtain ⟨s, hs⟩ : ∃ s, s = txtB (ndsOf l) := ⟨_, rfl⟩
    obtain ⟨o, ho⟩ : ∃ o, o = txtO (ndsOf l) := ⟨_, rfl⟩
    rw [← hs, ← ho] at HC
    have HE := hideT' (And.intro hs ho)
    clear hs ho hD
    go_wp2_with fail
    refine HC.out.mono ?_
    rintro e w3 ⟨rfl, hW3⟩
    have hB3 := hB2.trans (hW3.mono hB2.size)
    go_wp2_with fail
    refine (toCombS_any l v w3 (HV.out.below hB3) hl2).mono ?_
    rintro e w4 ⟨⟨c, rfl, hc, hD4⟩, hW4⟩
    have hB4 := hB3.trans (hW4.mono hB3.size)
    have HT4 : Hid (TabH w4.heap.size w4) := (HT.out.on hB4).up hB4.size
    have hcl := hD4.lt
    have HC2 := hideT' (implCombText_any (ndsOf l) _ w4 (Go.Proofs.YtgolfbjfopoeeaaDoor.CB.RecAt.nds hD4) hn HT4.out)
    rw [← HE.out.1, ← HE.out.2] at HC2
    go_wp2_with fail
    refine HC2.out.mono ?_
    rintro e w5 ⟨rfl, hW5⟩
    have hB5 := hB4.trans (hW5.mono hB4.size)
    have hD5 := hD4.below hW5 hcl
    have hcl5 := hD5.lt
    clear hD4
    have hoo : (o != o) = false := by cases o <;> rfl
    go_wp2_with fail
    refine (toCombS_any l v w5 (HV.out.below hB5) hl2).mono ?_
    rintro e w6 ⟨⟨d, rfl, hd, hD6⟩, hW6⟩
    have hB6 := hB5.trans (hW6.mono hB5.size)
    have hD7 := hD5.below hW6 hcl5
    go_wp2_with fail
    refine (eqCombS_in (slR c l) (slR d l) l w6 hl2 (hD7.inR combL_len) (hD6.inR combL_len)).mono ?_
    rintro e w7 ⟨rfl, hW7⟩
    have hB7 := hB6.trans (hW7.mono hB6.size)
    go_wp2
    go_ret
    exact ⟨rfl, hB7⟩

set_option maxRecDepth 100000 in
/-- What the walk gives, for all arguments and every world that holds the tables. -/
theorem contract (H : Type) (enc : TypeId × Value → H) (W : World) (base : Nat) (args : Array Value) (ds gs : List (DataW H)) (before : List MemPlace)
    (hval : ∀ (j : Nat) t v, Tryd.f5.params[j]? = some t → args[j]? = some v → Value.okWide Tryd.prog W .any base t v)
    (hW : DataW.Whole enc Tryd.prog Tryd.f5.params.toList Rows.fnExactCombTextSpec.vars false W args.toList ds gs before) (hL : laidMetH Tryd.prog Rows.fnExactCombTextRow.laid W) :
    Calls Tryd.prog 5 args W fun e W' => ∃ v, e = .returned v ∧ Rows.fnExactCombTextSpec.post enc Tryd.prog Tryd.f5 false true false false W args v W' := by
  have hW' := hW
  obtain ⟨p, q, hA0, hV, rfl, hfz, hnd⟩ := hW
  have hA : DataW.TrodAll enc Tryd.prog W 0 (fun _ => true) true Tryd.f5.params.toList args.toList ds p := hA0
  rw [Tryd.params5] at hA hval
  obtain ⟨v0, vs0, d0, ds0, p0, q0, hargs, rfl, rfl, h0, r0⟩ := trodAll_cons hA
  obtain ⟨rfl, rfl, rfl⟩ := trodAll_nil r0
  obtain rfl : args = #[v0] := by cases args; simp_all
  obtain ⟨rfl, rfl⟩ := trodVars_none hV
  obtain ⟨l0, g0, s0⟩ := open_terms (hval 0 34 v0 rfl rfl) h0
  clear hA0
  simp only [List.append_nil] at hW'
  have lt0 : ∀ x ∈ p0, x.block < W.heap.size := fun x hx => hW'.lt x (by simp [hx])
  refine (walk l0 v0 W g0 s0 (tab_of hL)).mono fun e W' ⟨he, bel⟩ => ?_
  subst he
  exact ⟨_, rfl, _, _, _, [], _, [], hW', (trodAll_cons_mk (shut_bool Tryd.underlying4 _) trodAll_mk0), (trodAll_cons_mk (Below.trod laidOutR (by kernel_rfl) (of_decide_eq_true (by kernel_rfl)) h0 bel lt0) trodAll_mk0), rfl, bel.frame _, fun h => by cases h⟩

theorem laid_met (os : Os) : laidMet Tryd.prog Rows.fnExactCombTextRow.laid ((World.doorLaid Tryd.prog 65 os).forCall (fun _ _ => 0) ⟨#[], #[.slice none 0 0], []⟩).memory :=
  laidMet_of_run' 24 (by kernel_rfl) (by kernel_rfl)
theorem reads (os : Os) {H : Type} (enc : TypeId × Value → H) : ∃ places, DataW.whole enc Tryd.prog ((World.doorLaid Tryd.prog 65 os).forCall (fun _ _ => 0) ⟨#[], #[.slice none 0 0], []⟩).memory Tryd.f5.params.toList Rows.fnExactCombTextSpec.vars false #[Value.slice none 0 0].toList 8 = some ([.nil], [], places) :=
  ⟨[], by kernel_rfl⟩

set_option maxRecDepth 100000 in
theorem lifted (os : Os) (started : os.Started) (H : Type) (enc : TypeId × Value → H) (F : Stop.Interp) :
    ReturnsInHanded {} Tryd.checked os 5 .any ((OpenSpec.ofChange Rows.fnExactCombTextSpec).preRow enc Tryd.prog Tryd.f5 Rows.fnExactCombTextRow.domain false Rows.fnExactCombTextRow.laid) (((OpenSpec.ofChange Rows.fnExactCombTextSpec).at F).post enc Tryd.prog Tryd.f5 false true false false) := by
  obtain ⟨places, hx⟩ := reads os enc
  refine returnsInHanded_of_row (C := Tryd.checked) (s := OpenSpec.ofChange Rows.fnExactCombTextSpec) own started (by kernel_rfl) Tryd.func5
    (witness_row_at (enc := enc) (C := Tryd.checked) false (World.doorLaid Tryd.prog 65 os) #[.slice none 0 0] rfl (by kernel_rfl) (by kernel_rfl) (by kernel_rfl)
      (OpenSpec.preRow_of_cond 8 hx (by kernel_rfl) (fun k hk => by cases hk) (by kernel_rfl) (laid_met os))) ?_
  intro W base args ds gs before hval hW _ _ _ hL _ _
  exact contract H enc W base args ds gs before hval hW hL

theorem said : Rows.FnExactCombTextSaid :=
  OpenClaim.holds_of_cond 5 Tryd.f5 rfl rfl rfl rfl rfl rfl rfl ⟨rfl, rfl, rfl, rfl, rfl⟩ rfl rfl rfl rfl rfl (by kernel_rfl) Tryd.func5 (by kernel_rfl)
    (of_decide_eq_true (by kernel_rfl)) (by unfold Func.isWrapper; first | (rw [if_pos (by decide +kernel)]; kernel_rfl) | (rw [if_neg (by decide +kernel)]; exact ⟨rfl, rfl⟩))
    (fun os started H enc _ F => by rw [OpenClaim.pre_eq_preRow]; exact lifted os started H enc F)

theorem plain (f : FuncId) (fn : Func) (hf : Tryd.pinned.checked.prog.funcNamed ("loop.example/g00201/laws.FnExactCombText") = some f) (hfn : Tryd.pinned.checked.prog.funcs[f]? = some fn) :
    true = Tryd.pinned.checked.prog.looks [] ∧ ∀ (j : Nat) t, fn.params[j]? = some t → Tryd.pinned.checked.prog.wantsStandIn t = false := by
  obtain rfl : f = 5 := Option.some.inj ((show Tryd.prog.funcNamed ("loop.example/g00201/laws.FnExactCombText") = some 5 by kernel_rfl).symm.trans hf) |>.symm
  obtain rfl : fn = Tryd.f5 := (Option.some.inj (Tryd.func5.symm.trans hfn)).symm
  refine ⟨by kernel_rfl, fun j t ht => ?_⟩
  rw [Tryd.params5] at ht
  obtain rfl : t = 34 := by simpa using Array.mem_of_getElem? ht
  exact (show Tryd.prog.wantsStandIn 34 = false by kernel_rfl)

theorem card : Rows.FnExactCombTextCardSaid :=
  Claim7.holds_tied_plain_at .later [] _ _ _ _ said (fun _ h => by cases h) (by kernel_rfl) (fun _ h => by cases h) fnExactCombText_row_tie rfl ⟨rfl, rfl⟩ (by kernel_rfl) rfl plain (by kernel_rfl)
end Go.Proofs.YtgolfbjfopoeeaaDoor.CB.fnExactCombText

namespace Go.Proofs.YtgolfbjfopoeeaaDoor
theorem combText_holds : Rows.FnExactCombTextCardSaid := CB.fnExactCombText.card
#print axioms combText_holds
end Go.Proofs.YtgolfbjfopoeeaaDoor
