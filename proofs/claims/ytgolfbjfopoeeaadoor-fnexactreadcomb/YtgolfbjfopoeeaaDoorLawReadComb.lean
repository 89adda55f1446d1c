/-
  Proved: the tied card of laws.FnExactReadComb: for all arguments that can be read it answers true (ReadComb answers as its model, and its answer owns its memory), and its arguments read behind the call as before.
  Condition, by the row: three tables and two errors of the library lie as the program's text lays them (the card ties them). The frame follows the guide's own.
-/
import Derived.Test.YtgolfbjfopoeeaaDoorRows
import Derived.Test.YtgolfbjfopoeeaaDoorCards
import Derived.Test.YtgolfbjfopoeeaaDoorTie
import Derived.Test.YtgolfbjfopoeeaaDoorLaidRd
import Derived.Test.YtgolfbjfopoeeaaDoorTailReadCombD
import Derived.Test.YtgolfbjfopoeeaaDoorTailReadCombE
import Derived.WalkKit
import Derived.ProofKit
import Derived.OpenShut
import Derived.ShutString
import Derived.ChangeOld
import Derived.Below
import Derived.Deep.DeepHandedRow
import Derived.Lay
import Derived.SevenTiedAt
namespace Go.Proofs.YtgolfbjfopoeeaaDoor.CB.fnExactReadComb
open Go.ChangeShapes Go.WideShapes Go.ChangeAt Go.RowKit
open Go.ChangeMaps (open_string shut_string)
set_option linter.unusedVariables false

set_option maxHeartbeats 2000000 in
set_option maxRecDepth 100000 in
theorem walk (a0 : ByteArray) (w0 : a0.size ≤ maxLen) (w : World) (hT : TabH w.heap.size w) (hE : EV w) :
    Calls Tryd.prog 6 #[.string a0] w fun e w' => e = .returned (.bool true) ∧ Below w.heap.size w w' := by
  have hb0 := w0
  unfold maxLen at hb0
  by_cases hl0 : (1048576 : Int) < (a0.size : Int)
  · clear hT hE
    go_enter Tryd.func6, Tryd.ntmps6
    go_wp2
    go_ret
    exact ⟨rfl, Below.refl _ _⟩
  have ha0 : a0.size ≤ 1048576 := by omega
  have HT := hideT' hT
  have HE := hideT' hE
  clear hT hE
  go_enter Tryd.func6, Tryd.ntmps6
  go_wp2_with fail
  refine (specReadComb_any a0 w ha0).mono ?_
  rintro e wa ⟨⟨v1, rfl, hO1⟩, hWa⟩
  obtain ⟨L, hLe⟩ : ∃ L, L = toldL (ansT a0.data.toList) := ⟨_, rfl⟩
  obtain ⟨o, hoe⟩ : ∃ o, o = toldB (ansT a0.data.toList) := ⟨_, rfl⟩
  have hL : L.length ≤ 1048576 := by rw [hLe]; exact toldL_len _
  rw [← hLe] at hO1
  rw [← hoe]
  have HLaw := hideT' (And.intro hLe hoe)
  have HO1 := hideT' hO1
  have hsa := hWa.size
  have HC2 := hideT' (implReadComb_any a0 wa ha0 ((HT.out.on hWa).up hsa) (HE.out.below hWa))
  clear hLe hoe hO1
  go_wp2_with fail
  refine HC2.out.mono ?_
  rintro e wb ⟨⟨v2, rfl, hO2⟩, hWb⟩
  rw [← HLaw.out.1] at hO2
  rw [← HLaw.out.2]
  have hB2 := hWa.trans (hWb.mono hsa)
  have HO2 := hideT' hO2
  have HO1b := hideT' (OwnR.below HO1.out hWb (Nat.le_refl _))
  have hoo : (o != o) = false := by cases o <;> rfl
  have HC3 := hideT' (eqCombS_in v2 v1 L wb (by omega) (HO2.out.inR combL_len) (HO1b.out.inR combL_len))
  -- the two rows lie apart
  have HNE : Hid (L ≠ [] → v1.ownBlock ≠ v2.ownBlock) := fun hne e => by
    rcases HO1.out.2 with ⟨_, h0⟩ | ⟨g, cap, cur, h1, _, hg, _⟩
    · exact hne (List.length_eq_zero_iff.1 h0)
    · have hb1 : v1.ownBlock = some g := by rw [h1]; rfl
      have := (HO2.out.lt g (by rw [← e]; exact hb1)).1
      have hlt := (Array.getElem?_eq_some_iff.1 hg).1
      omega
  clear hO2
  go_wp2_with fail
  refine HC3.out.mono ?_
  rintro e wc ⟨rfl, hWc⟩
  have hB3 := hB2.trans (hWc.mono hB2.size)
  have HO2c := hideT' (OwnR.below HO2.out hWc (Nat.le_refl _))
  have HO1c := hideT' (OwnR.below HO1b.out hWc (Nat.le_refl _))
  have HC4 := hideT' (markCombS_own v2 L.length _ 1 wa.heap.size wc (by omega) (by omega) HO2c.out)
  obtain ⟨M, hM⟩ : ∃ M : Int, M = 1 + 3 * (L.length : Int) := ⟨_, rfl⟩
  have hM0 : ¬ M < 0 := by omega
  have HM := hideT' hM
  clear hM
  go_wp2_with fail
  refine HC4.out.mono ?_
  rintro e wd ⟨rfl, hOd, hgd⟩
  rw [← HM.out]
  have hB4 : Below w.heap.size w wd := hB3.grown hgd hB3.size (fun k hk => by have := (HO2c.out.lt k hk).1; omega)
  have HI2 := hideT' (OwnR.inR (l := markL markComb 3 1 L.length) (by rw [OwnR] at hOd; exact hOd) combL_len)
  have HI1 := hideT' (InR.grown (HO1c.out.inR combL_len) hgd HNE.out)
  have HC5 := hideT' (heldCombS_in v2 L.length 1 wd (by omega) (by omega) HI2.out)
  clear hgd hOd
  go_wp2_with fail
  refine HC5.out.mono ?_
  rintro e we ⟨rfl, hWe⟩
  rw [← HM.out]
  have hB5 := hB4.trans (hWe.mono hB4.size)
  have HI2e := hideT' (HI2.out.below hWe)
  have HI1e := hideT' (HI1.out.below hWe)
  have HC6 := hideT' (implReadComb_any a0 we ha0 ((HT.out.on hB5).up hB5.size) (HE.out.below hB5))
  go_wp2_with fail
  refine HC6.out.mono ?_
  rintro e wf ⟨⟨v3, rfl, hO3⟩, hWf⟩
  rw [← HLaw.out.1] at hO3
  rw [← HLaw.out.2]
  have hB6 := hB5.trans (hWf.mono hB5.size)
  have HI2f := hideT' (HI2e.out.below hWf)
  have HI1f := hideT' (HI1e.out.below hWf)
  have HC7 := hideT' (eqCombS_in v3 v1 L wf (by omega) (OwnR.inR (l := L) hO3 combL_len) HI1f.out)
  clear hO3
  go_wp2_with fail
  refine HC7.out.mono ?_
  rintro e wg ⟨rfl, hWg⟩
  have hB7 := hB6.trans (hWg.mono hB6.size)
  have HC8 := hideT' (heldCombS_in v2 L.length 1 wg (by omega) (by omega) (HI2f.out.below hWg))
  go_wp2_with fail
  refine HC8.out.mono ?_
  rintro e wh ⟨rfl, hWh⟩
  rw [← HM.out]
  have hB8 := hB7.trans (hWh.mono hB7.size)
  go_wp2
  go_ret
  exact ⟨rfl, hB8⟩

set_option maxRecDepth 100000 in
/-- What the walk gives, for all arguments and every world that holds the tables. -/
theorem contract (H : Type) (enc : TypeId × Value → H) (W : World) (base : Nat) (args : Array Value) (ds gs : List (DataW H)) (before : List MemPlace)
    (hval : ∀ (j : Nat) t v, Tryd.f6.params[j]? = some t → args[j]? = some v → Value.okWide Tryd.prog W .any base t v)
    (hW : DataW.Whole enc Tryd.prog Tryd.f6.params.toList Rows.fnExactReadCombSpec.vars false W args.toList ds gs before) (hL : laidMetH Tryd.prog Rows.fnExactReadCombRow.laid W) :
    Calls Tryd.prog 6 args W fun e W' => ∃ v, e = .returned v ∧ Rows.fnExactReadCombSpec.post enc Tryd.prog Tryd.f6 false true false false W args v W' := by
  have hW' := hW
  obtain ⟨p, q, hA0, hV, rfl, hfz, hnd⟩ := hW
  have hA : DataW.TrodAll enc Tryd.prog W 0 (fun _ => true) true Tryd.f6.params.toList args.toList ds p := hA0
  rw [Tryd.params6] at hA hval
  obtain ⟨v0, vs0, d0, ds0, p0, q0, hargs, rfl, rfl, h0, r0⟩ := trodAll_cons hA
  obtain ⟨rfl, rfl, rfl⟩ := trodAll_nil r0
  obtain rfl : args = #[v0] := by cases args; simp_all
  obtain ⟨rfl, rfl⟩ := trodVars_none hV
  obtain ⟨a0, rfl, rfl, rfl, w0⟩ := open_string Tryd.underlying9 (hval 0 9 v0 rfl rfl) h0
  clear hA0
  simp only [List.append_nil] at hW'
  refine (walk a0 w0 W (tab_ev hL).1 (tab_ev hL).2).mono fun e W' ⟨he, bel⟩ => ?_
  subst he
  exact ⟨_, rfl, _, _, _, [], [], [], hW', (trodAll_cons_mk (shut_bool Tryd.underlying4 _) trodAll_mk0), (trodAll_cons_mk (shut_string Tryd.underlying9 w0) trodAll_mk0), rfl, bel.frame _, fun h => by cases h⟩

theorem laid_met (os : Os) : laidMet Tryd.prog Rows.fnExactReadCombRow.laid ((World.laidAll Tryd.prog os Rows.fnExactReadCombRow.laid).forCall (fun _ _ => 0) ⟨#[], #[.string ByteArray.empty], []⟩).memory :=
  laidMet_laidAll _ (by kernel_rfl) (by kernel_rfl)
theorem reads (os : Os) {H : Type} (enc : TypeId × Value → H) : ∃ places, DataW.whole enc Tryd.prog ((World.laidAll Tryd.prog os Rows.fnExactReadCombRow.laid).forCall (fun _ _ => 0) ⟨#[], #[.string ByteArray.empty], []⟩).memory Tryd.f6.params.toList Rows.fnExactReadCombSpec.vars false #[Value.string ByteArray.empty].toList 8 = some ([.lit (.string [])], [], places) :=
  ⟨[], by kernel_rfl⟩

set_option maxRecDepth 100000 in
theorem lifted (os : Os) (started : os.Started) (H : Type) (enc : TypeId × Value → H) (F : Stop.Interp) :
    ReturnsInHanded {} Tryd.checked os 6 .any ((OpenSpec.ofChange Rows.fnExactReadCombSpec).preRow enc Tryd.prog Tryd.f6 Rows.fnExactReadCombRow.domain false Rows.fnExactReadCombRow.laid) (((OpenSpec.ofChange Rows.fnExactReadCombSpec).at F).post enc Tryd.prog Tryd.f6 false true false false) := by
  obtain ⟨places, hx⟩ := reads os enc
  refine returnsInHanded_of_row (C := Tryd.checked) (s := OpenSpec.ofChange Rows.fnExactReadCombSpec) own started (by kernel_rfl) Tryd.func6
    (witness_row_at (enc := enc) (C := Tryd.checked) false (World.laidAll Tryd.prog os Rows.fnExactReadCombRow.laid) #[.string ByteArray.empty] (World.laidAll_os _ _ _) (by kernel_rfl) (by kernel_rfl) (by kernel_rfl)
      (OpenSpec.preRow_of_cond 8 hx (by kernel_rfl) (fun k hk => by cases hk) (by kernel_rfl) (laid_met os))) ?_
  intro W base args ds gs before hval hW _ _ _ hL _ _
  exact contract H enc W base args ds gs before hval hW hL

theorem said : Rows.FnExactReadCombSaid :=
  OpenClaim.holds_of_cond 6 Tryd.f6 rfl rfl rfl rfl rfl rfl rfl ⟨rfl, rfl, rfl, rfl, rfl⟩ rfl rfl rfl rfl rfl (by kernel_rfl) Tryd.func6 (by kernel_rfl)
    (of_decide_eq_true (by kernel_rfl)) (by unfold Func.isWrapper; first | (rw [if_pos (by decide +kernel)]; kernel_rfl) | (rw [if_neg (by decide +kernel)]; exact ⟨rfl, rfl⟩))
    (fun os started H enc _ F => by rw [OpenClaim.pre_eq_preRow]; exact lifted os started H enc F)

theorem plain (f : FuncId) (fn : Func) (hf : Tryd.pinned.checked.prog.funcNamed ("loop.example/g00201/laws.FnExactReadComb") = some f) (hfn : Tryd.pinned.checked.prog.funcs[f]? = some fn) :
    true = Tryd.pinned.checked.prog.looks [] ∧ ∀ (j : Nat) t, fn.params[j]? = some t → Tryd.pinned.checked.prog.wantsStandIn t = false := by
  obtain rfl : f = 6 := Option.some.inj ((show Tryd.prog.funcNamed ("loop.example/g00201/laws.FnExactReadComb") = some 6 by kernel_rfl).symm.trans hf) |>.symm
  obtain rfl : fn = Tryd.f6 := (Option.some.inj (Tryd.func6.symm.trans hfn)).symm
  refine ⟨by kernel_rfl, fun j t ht => ?_⟩
  rw [Tryd.params6] at ht
  obtain rfl : t = 9 := by simpa using Array.mem_of_getElem? ht
  exact (show Tryd.prog.wantsStandIn 9 = false by kernel_rfl)

theorem card : Rows.FnExactReadCombCardSaid :=
  Claim7.holds_tied_plain_at .later [] _ _ _ _ said (fun _ h => by cases h) (by kernel_rfl) (fun _ h => by cases h) fnExactReadComb_row_tie rfl ⟨rfl, rfl⟩ (by kernel_rfl) rfl plain (by kernel_rfl)
end Go.Proofs.YtgolfbjfopoeeaaDoor.CB.fnExactReadComb

namespace Go.Proofs.YtgolfbjfopoeeaaDoor
theorem readComb_holds : Rows.FnExactReadCombCardSaid := CB.fnExactReadComb.card
#print axioms readComb_holds
end Go.Proofs.YtgolfbjfopoeeaaDoor
