/-
  Proved: the tied card of laws.FnExactTermsOf: for all arguments that can be read it answers true (TermsOf answers as its model, and its answer owns its memory), and its arguments read behind the call as before.
  Condition, by the row: three tables of the library lie as the program's text lays them (the card ties them). The frame follows the guide's own.
-/
import Derived.Test.YthbnacikomimfaaDoorRows
import Derived.Test.YthbnacikomimfaaDoorCards
import Derived.Test.YthbnacikomimfaaDoorTie
import Derived.Test.YthbnacikomimfaaDoorLaid
import Derived.Test.YthbnacikomimfaaDoorSpecTerms
import Derived.Test.YthbnacikomimfaaDoorTailTermsOfB
import Derived.WalkKit
import Derived.ProofKit
import Derived.OpenShut
import Derived.ShutString
import Derived.ChangeOld
import Derived.Below
import Derived.Deep.DeepHandedRow
import Derived.SevenTiedAt
namespace Go.Proofs.YthbnacikomimfaaDoor.fnExactTermsOf
open Go.ChangeShapes Go.WideShapes Go.ChangeAt Go.RowKit
open Go.ChangeMaps (open_string shut_string)
set_option linter.unusedVariables false

/-- What is answered, whatever it is: a row in new memory, fixed by the text. -/
theorem norm {a : ByteArray} {w : World} {e : Ending} {w' : World} (h : TmAns a w e w') : ∃ (L : List ByteArray) (v : Value) (o : Bool), e = .returned (.tuple #[v, .bool o]) ∧ OwnR w' w.heap.size v 9 stringL 1 L ∧ L.length ≤ 3000 ∧ ((o = true ∧ tmOk a = true ∧ L = (trm (negN a.data.toList) (topN a.data.toList) (botN a.data.toList)).map tmB) ∨ (o = false ∧ tmOk a = false ∧ L = [])) := by
  rcases h with ⟨hk, v, he, hO⟩ | ⟨hk, he⟩
  · refine ⟨_, v, true, he, hO, ?_, .inl ⟨rfl, hk, rfl⟩⟩
    unfold tmOk at hk
    have h1 := of_decide_eq_true (Bool.and_eq_true_iff.1 hk).2
    rw [List.length_map]; omega
  · exact ⟨[], _, false, he, World.ownsRow_nil _ _ _ _, by simp, .inr ⟨rfl, hk, rfl⟩⟩
theorem agree {a : ByteArray} {L L' : List ByteArray} {o o' : Bool} (h : (o = true ∧ tmOk a = true ∧ L = (trm (negN a.data.toList) (topN a.data.toList) (botN a.data.toList)).map tmB) ∨ (o = false ∧ tmOk a = false ∧ L = [])) (h' : (o' = true ∧ tmOk a = true ∧ L' = (trm (negN a.data.toList) (topN a.data.toList) (botN a.data.toList)).map tmB) ∨ (o' = false ∧ tmOk a = false ∧ L' = [])) : L = L' ∧ o = o' := by
  rcases h with ⟨rfl, h, rfl⟩ | ⟨rfl, h, rfl⟩ <;> rcases h' with ⟨rfl, h', rfl⟩ | ⟨rfl, h', rfl⟩
  · exact ⟨rfl, rfl⟩
  · rw [h] at h'; cases h'
  · rw [h] at h'; cases h'
  · exact ⟨rfl, rfl⟩

set_option maxHeartbeats 2000000 in
set_option maxRecDepth 100000 in
theorem walk (a0 : ByteArray) (w0 : a0.size ≤ maxLen) (w : World) (hT : Tab w.heap.size w) :
    Calls Tryd.prog 5 #[.string a0] w fun e w' => e = .returned (.bool true) ∧ Below w.heap.size w w' := by
  have hb0 := w0
  unfold maxLen at hb0
  by_cases hl0 : (1048576 : Int) < (a0.size : Int)
  · clear hT
    go_enter Tryd.func5, Tryd.ntmps5
    go_wp2
    go_ret
    exact ⟨rfl, Below.refl _ _⟩
  have ha0 : a0.size ≤ 1048576 := by omega
  have HT := hideT' hT
  clear hT
  go_enter Tryd.func5, Tryd.ntmps5
  go_wp2_with fail
  refine (specTerms_any a0 w w0).mono ?_
  rintro e wa ⟨hA, hWa⟩
  obtain ⟨L, v1, o, rfl, hO1, hL, hlaw⟩ := norm hA
  have HLaw := hideT' hlaw
  have HO1 := hideT' hO1
  have hsa := hWa.size
  have HC2 := hideT' (implTerms_any a0 wa w0 ((HT.out.on hWa).up hsa))
  clear hA hlaw hO1
  go_wp2_with fail
  refine HC2.out.mono ?_
  rintro e wb ⟨hA, hWb⟩
  obtain ⟨L2, v2, o2, rfl, hO2, _, hlaw2⟩ := norm hA
  obtain ⟨rfl, rfl⟩ := agree HLaw.out hlaw2
  have hB2 := hWa.trans (hWb.mono hsa)
  have HO2 := hideT' hO2
  have HO1b := hideT' (OwnR.below HO1.out hWb (Nat.le_refl _))
  have hoo : (o != o) = false := by cases o <;> rfl
  have HC3 := hideT' (eqStringS_in v2 v1 L wb (by omega) (HO2.out.inR stringL_len) (HO1b.out.inR stringL_len))
  -- the two rows lie apart
  have HNE : Hid (L ≠ [] → v1.ownBlock ≠ v2.ownBlock) := fun hne e => by
    rcases HO1.out.2 with ⟨_, h0⟩ | ⟨g, cap, cur, h1, _, hg, _⟩
    · exact hne (List.length_eq_zero_iff.1 h0)
    · have hb1 : v1.ownBlock = some g := by rw [h1]; rfl
      have := (HO2.out.lt g (by rw [← e]; exact hb1)).1
      have hlt := (Array.getElem?_eq_some_iff.1 hg).1
      omega
  clear hA hlaw2 hO2
  go_wp2_with fail
  refine HC3.out.mono ?_
  rintro e wc ⟨rfl, hWc⟩
  have hB3 := hB2.trans (hWc.mono hB2.size)
  have HO2c := hideT' (OwnR.below HO2.out hWc (Nat.le_refl _))
  have HO1c := hideT' (OwnR.below HO1b.out hWc (Nat.le_refl _))
  have HC4 := hideT' (markStringS_own v2 L.length _ 1 wa.heap.size wc (by omega) (by omega) HO2c.out)
  obtain ⟨M, hM⟩ : ∃ M : Int, M = 1 + 1 * (L.length : Int) := ⟨_, rfl⟩
  have hM0 : ¬ M < 0 := by omega
  have HM := hideT' hM
  clear hM
  go_wp2_with fail
  refine HC4.out.mono ?_
  rintro e wd ⟨rfl, hOd, hgd⟩
  rw [← HM.out]
  have hB4 : Below w.heap.size w wd := hB3.grown hgd hB3.size (fun k hk => by have := (HO2c.out.lt k hk).1; omega)
  have HI2 := hideT' (OwnR.inR (l := markL markString 1 1 L.length) (by rw [OwnR] at hOd; exact hOd) stringL_len)
  have HI1 := hideT' (InR.grown (HO1c.out.inR stringL_len) hgd HNE.out)
  have HC5 := hideT' (heldStringS_in v2 L.length 1 wd (by omega) (by omega) HI2.out)
  clear hgd hOd
  go_wp2_with fail
  refine HC5.out.mono ?_
  rintro e we ⟨rfl, hWe⟩
  rw [← HM.out]
  have hB5 := hB4.trans (hWe.mono hB4.size)
  have HI2e := hideT' (HI2.out.below hWe)
  have HI1e := hideT' (HI1.out.below hWe)
  have HC6 := hideT' (implTerms_any a0 we w0 ((HT.out.on hB5).up hB5.size))
  go_wp2_with fail
  refine HC6.out.mono ?_
  rintro e wf ⟨hA, hWf⟩
  obtain ⟨L3, v3, o4, rfl, hO3, _, hlaw3⟩ := norm hA
  obtain ⟨rfl, rfl⟩ := agree HLaw.out hlaw3
  have hB6 := hB5.trans (hWf.mono hB5.size)
  have HI2f := hideT' (HI2e.out.below hWf)
  have HI1f := hideT' (HI1e.out.below hWf)
  have HC7 := hideT' (eqStringS_in v3 v1 L wf (by omega) (OwnR.inR (l := L) hO3 stringL_len) HI1f.out)
  clear hA hlaw3 hO3
  go_wp2_with fail
  refine HC7.out.mono ?_
  rintro e wg ⟨rfl, hWg⟩
  have hB7 := hB6.trans (hWg.mono hB6.size)
  have HC8 := hideT' (heldStringS_in v2 L.length 1 wg (by omega) (by omega) (HI2f.out.below hWg))
  go_wp2_with fail
  refine HC8.out.mono ?_
  rintro e wh ⟨rfl, hWh⟩
  rw [← HM.out]
  have hB8 := hB7.trans (hWh.mono hB7.size)
  go_wp2
  go_ret
  exact ⟨rfl, hB8⟩

set_option maxRecDepth 100000 in
/-- What the walk gives, for all arguments and every world that holds the tables. -/
theorem contract (H : Type) (enc : TypeId × Value → H) (W : World) (base : Nat) (args : Array Value) (ds gs : List (DataW H)) (before : List MemPlace)
    (hval : ∀ (j : Nat) t v, Tryd.f5.params[j]? = some t → args[j]? = some v → Value.okWide Tryd.prog W .any base t v)
    (hW : DataW.Whole enc Tryd.prog Tryd.f5.params.toList Rows.fnExactTermsOfSpec.vars false W args.toList ds gs before) (hL : laidMetH Tryd.prog Rows.fnExactTermsOfRow.laid W) :
    Calls Tryd.prog 5 args W fun e W' => ∃ v, e = .returned v ∧ Rows.fnExactTermsOfSpec.post enc Tryd.prog Tryd.f5 false true false false W args v W' := by
  have hW' := hW
  obtain ⟨p, q, hA0, hV, rfl, hfz, hnd⟩ := hW
  have hA : DataW.TrodAll enc Tryd.prog W 0 (fun _ => true) true Tryd.f5.params.toList args.toList ds p := hA0
  rw [Tryd.params5] at hA hval
  obtain ⟨v0, vs0, d0, ds0, p0, q0, hargs, rfl, rfl, h0, r0⟩ := trodAll_cons hA
  obtain ⟨rfl, rfl, rfl⟩ := trodAll_nil r0
  obtain rfl : args = #[v0] := by cases args; simp_all
  obtain ⟨rfl, rfl⟩ := trodVars_none hV
  obtain ⟨a0, rfl, rfl, rfl, w0⟩ := open_string Tryd.underlying9 (hval 0 9 v0 rfl rfl) h0
  clear hA0
  simp only [List.append_nil] at hW'
  refine (walk a0 w0 W (tab_of hL)).mono fun e W' ⟨he, bel⟩ => ?_
  subst he
  exact ⟨_, rfl, _, _, _, [], [], [], hW', (trodAll_cons_mk (shut_bool Tryd.underlying4 _) trodAll_mk0), (trodAll_cons_mk (shut_string Tryd.underlying9 w0) trodAll_mk0), rfl, bel.frame _, fun h => by cases h⟩

theorem laid_met (os : Os) : laidMet Tryd.prog Rows.fnExactTermsOfRow.laid ((World.doorLaid Tryd.prog 65 os).forCall (fun _ _ => 0) ⟨#[], #[.string ByteArray.empty], []⟩).memory :=
  laidMet_of_run' 24 (by kernel_rfl) (by kernel_rfl)
theorem reads (os : Os) {H : Type} (enc : TypeId × Value → H) : ∃ places, DataW.whole enc Tryd.prog ((World.doorLaid Tryd.prog 65 os).forCall (fun _ _ => 0) ⟨#[], #[.string ByteArray.empty], []⟩).memory Tryd.f5.params.toList Rows.fnExactTermsOfSpec.vars false #[Value.string ByteArray.empty].toList 8 = some ([.lit (.string [])], [], places) :=
  ⟨[], by kernel_rfl⟩

set_option maxRecDepth 100000 in
theorem lifted (os : Os) (started : os.Started) (H : Type) (enc : TypeId × Value → H) (F : Stop.Interp) :
    ReturnsInHanded {} Tryd.checked os 5 .any ((OpenSpec.ofChange Rows.fnExactTermsOfSpec).preRow enc Tryd.prog Tryd.f5 Rows.fnExactTermsOfRow.domain false Rows.fnExactTermsOfRow.laid) (((OpenSpec.ofChange Rows.fnExactTermsOfSpec).at F).post enc Tryd.prog Tryd.f5 false true false false) := by
  obtain ⟨places, hx⟩ := reads os enc
  refine returnsInHanded_of_row (C := Tryd.checked) (s := OpenSpec.ofChange Rows.fnExactTermsOfSpec) own started (by kernel_rfl) Tryd.func5
    (witness_row_at (enc := enc) (C := Tryd.checked) false (World.doorLaid Tryd.prog 65 os) #[.string ByteArray.empty] rfl (by kernel_rfl) (by kernel_rfl) (by kernel_rfl)
      (OpenSpec.preRow_of_cond 8 hx (by kernel_rfl) (fun k hk => by cases hk) (by kernel_rfl) (laid_met os))) ?_
  intro W base args ds gs before hval hW _ _ _ hL _ _
  exact contract H enc W base args ds gs before hval hW hL

theorem said : Rows.FnExactTermsOfSaid :=
  OpenClaim.holds_of_cond 5 Tryd.f5 rfl rfl rfl rfl rfl rfl rfl ⟨rfl, rfl, rfl, rfl, rfl⟩ rfl rfl rfl rfl rfl (by kernel_rfl) Tryd.func5 (by kernel_rfl)
    (of_decide_eq_true (by kernel_rfl)) (by unfold Func.isWrapper; first | (rw [if_pos (by decide +kernel)]; kernel_rfl) | (rw [if_neg (by decide +kernel)]; exact ⟨rfl, rfl⟩))
    (fun os started H enc _ F => by rw [OpenClaim.pre_eq_preRow]; exact lifted os started H enc F)

theorem plain (f : FuncId) (fn : Func) (hf : Tryd.pinned.checked.prog.funcNamed ("loop.example/g00201/laws.FnExactTermsOf") = some f) (hfn : Tryd.pinned.checked.prog.funcs[f]? = some fn) :
    false = Tryd.pinned.checked.prog.looks [] ∧ ∀ (j : Nat) t, fn.params[j]? = some t → Tryd.pinned.checked.prog.wantsStandIn t = false := by
  obtain rfl : f = 5 := Option.some.inj ((show Tryd.prog.funcNamed ("loop.example/g00201/laws.FnExactTermsOf") = some 5 by kernel_rfl).symm.trans hf) |>.symm
  obtain rfl : fn = Tryd.f5 := (Option.some.inj (Tryd.func5.symm.trans hfn)).symm
  refine ⟨by kernel_rfl, fun j t ht => ?_⟩
  rw [Tryd.params5] at ht
  obtain rfl : t = 9 := by simpa using Array.mem_of_getElem? ht
  exact (show Tryd.prog.wantsStandIn 9 = false by kernel_rfl)

theorem card : Rows.FnExactTermsOfCardSaid :=
  Claim7.holds_tied_plain_at .later [] _ _ _ _ said (fun _ h => by cases h) (by kernel_rfl) (fun _ h => by cases h) fnExactTermsOf_row_tie rfl ⟨rfl, rfl⟩ (by kernel_rfl) rfl plain (by kernel_rfl)
end Go.Proofs.YthbnacikomimfaaDoor.fnExactTermsOf

namespace Go.Proofs.YthbnacikomimfaaDoor
theorem termsOf_holds : Rows.FnExactTermsOfCardSaid := fnExactTermsOf.card
#print axioms termsOf_holds
end Go.Proofs.YthbnacikomimfaaDoor
