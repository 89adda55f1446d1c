/-
  Proved: the tied card of laws.FnExactSameData: for all arguments that can be read it answers true (SameData answers as its model), and its arguments read behind the call as before.
  Condition, by the row: three tables of the library lie as the program's text lays them (the card ties them). The frame follows the guide's own.
-/
import Derived.Test.YtjgpjafndaikcaaGreatDoorRows
import Derived.Test.YtjgpjafndaikcaaGreatDoorCards
import Derived.Test.YtjgpjafndaikcaaGreatDoorTie
import Derived.Test.YtjgpjafndaikcaaGreatDoorLaid
import Derived.Test.YtjgpjafndaikcaaGreatDoorAns
import Derived.Test.YtjgpjafndaikcaaGreatDoorTailSameDataC
import Derived.WalkKit
import Derived.ProofKit
import Derived.OpenShut
import Derived.ShutString
import Derived.ChangeOld
import Derived.Below
import Derived.Deep.DeepHandedRow
import Derived.SevenTiedAt
import Derived.Carry
namespace Go.Proofs.YtjgpjafndaikcaaGreatDoor.fnExactSameData
open Go.ChangeShapes Go.WideShapes Go.ChangeAt Go.RowKit
open Go.ChangeMaps (open_string shut_string)
set_option linter.unusedVariables false

set_option maxHeartbeats 1000000 in
set_option maxRecDepth 100000 in
theorem walk (l : List Dm) (v : Value) (m : List Dm) (u : Value) (w : World) (hv : SlIn w v l) (hs : ∀ i, i < l.length → (dt l i).size ≤ maxLen) (hl : l.length ≤ maxLen) (hu : SlIn w u m) (hs2 : ∀ i, i < m.length → (dt m i).size ≤ maxLen) (hm : m.length ≤ maxLen) (hT : Tab w.heap.size w) :
    Calls Tryz.prog 5 #[v, u] w fun e w' => e = .returned (.bool true) ∧ Below w.heap.size w w' := by
  have HV := hideT' hv
  have HS := hideT' hs
  have HU := hideT' hu
  have HS2 := hideT' hs2
  have HT := hideT' hT
  clear hv hs hT hu hs2
  go_enter Tryz.func5, Tryz.ntmps5
  go_wp2_with fail
  refine (szDatumS_any l v 1048576 _ HV.out HS.out (by omega) (by omega) hl).mono ?_
  rintro e w1 ⟨⟨r, rfl, hr⟩, hW1⟩
  rcases hr with rfl | ⟨hr0, hr1, hr2⟩
  · go_wp2
    go_ret
    exact ⟨rfl, hW1⟩
  · have hr3 : ¬ r < 0 := by omega
    have hl2 : l.length ≤ 1048576 := by omega
    go_wp2_with fail
    refine (szDatumS_any m u r _ (HU.out.below hW1) HS2.out (by omega) (by omega) hm).mono ?_
    rintro e w2 ⟨⟨r2, rfl, hq⟩, hW2⟩
    have hB2 := hW1.trans (hW2.mono hW1.size)
    rcases hq with rfl | ⟨hq0, hq1, hq2⟩
    · go_wp2
      go_ret
      exact ⟨rfl, hB2⟩
    · have hq3 : ¬ r2 < 0 := by omega
      have hm2 : m.length ≤ 1048576 := by omega
      go_wp2_with fail
      refine (toDatumS_any l v w2 (HV.out.below hB2) hl2).mono ?_
      rintro e w3 ⟨⟨b, rfl, hb, hD⟩, hW3⟩
      have hB3 := hB2.trans (hW3.mono hB2.size)
      have hbl := RowAt.lt hD
      go_wp2_with fail
      refine (toDatumS_any m u w3 (HU.out.below hB3) hm2).mono ?_
      rintro e w4 ⟨⟨c, rfl, hc, hD4⟩, hW4⟩
      have hB4 := hB3.trans (hW4.mono hB3.size)
      go_wp2_with fail
      refine (specSameData_any b c l m w4 hl HS.out HS2.out (RowAt.below hD hW4 hbl) hD4).mono ?_
      rintro e w5 ⟨rfl, hW5⟩
      have hB5 := hB4.trans (hW5.mono hB4.size)
      obtain ⟨o1, o2, ho⟩ : ∃ o1 o2, sameV l m = .tuple #[.bool o1, .bool o2] := ⟨_, _, rfl⟩
      have HO := hideT' ho
      rw [ho]
      clear ho hD hD4
      go_wp2_with fail
      refine (toDatumS_any l v w5 (HV.out.below hB5) hl2).mono ?_
      rintro e w6 ⟨⟨b2, rfl, hb2, hD6⟩, hW6⟩
      have hB6 := hB5.trans (hW6.mono hB5.size)
      have hbl6 := RowAt.lt hD6
      go_wp2_with fail
      refine (toDatumS_any m u w6 (HU.out.below hB6) hm2).mono ?_
      rintro e w7 ⟨⟨c2, rfl, hc2, hD7⟩, hW7⟩
      have hB7 := hB6.trans (hW7.mono hB6.size)
      have hD67 : DatAt w7 b2 l := RowAt.below hD6 hW7 hbl6
      have HT7 : Hid (Tab w7.heap.size w7) := (HT.out.on hB7).up hB7.size
      have hbl7 := RowAt.lt hD67
      have hcl7 := RowAt.lt hD7
      go_wp2_with fail
      refine (implSameData_any b2 c2 l m w7 hl HS.out HS2.out hD67 hD7 HT7.out).mono ?_
      rintro e w8 ⟨rfl, hW8⟩
      have hB8 := hB7.trans (hW8.mono hB7.size)
      have hD8 : DatAt w8 b2 l := RowAt.below hD67 hW8 hbl7
      have hE8 : DatAt w8 c2 m := RowAt.below hD7 hW8 hcl7
      have hbl8 := RowAt.lt hD8
      have hcl8 := RowAt.lt hE8
      rw [HO.out]
      clear hD6 hD67 hD7
      have h1 : (o1 != o1) = false := by cases o1 <;> rfl
      have h2 : (o2 != o2) = false := by cases o2 <;> rfl
      go_wp2_with fail
      refine (toDatumS_any l v w8 (HV.out.below hB8) hl2).mono ?_
      rintro e w9 ⟨⟨b3, rfl, hb3, hD9⟩, hW9⟩
      have hB9 := hB8.trans (hW9.mono hB8.size)
      have hE9 : DatAt w9 c2 m := RowAt.below hE8 hW9 hcl8
      have hcl9 := RowAt.lt hE9
      go_wp2_with fail
      refine (eqDatumS_any b2 b3 l w9 hl2 (RowAt.below hD8 hW9 hbl8) hD9).mono ?_
      rintro e wa ⟨rfl, hWa⟩
      have hBa := hB9.trans (hWa.mono hB9.size)
      have hEa : DatAt wa c2 m := RowAt.below hE9 hWa hcl9
      have hcla := RowAt.lt hEa
      clear hD8 hE8 hD9 hE9
      go_wp2_with fail
      refine (toDatumS_any m u wa (HU.out.below hBa) hm2).mono ?_
      rintro e wb ⟨⟨c3, rfl, hc3, hDb⟩, hWb⟩
      have hBb := hBa.trans (hWb.mono hBa.size)
      go_wp2_with fail
      refine (eqDatumS_any c2 c3 m wb hm2 (RowAt.below hEa hWb hcla) hDb).mono ?_
      rintro e wc ⟨rfl, hWc⟩
      have hBc := hBb.trans (hWc.mono hBb.size)
      go_wp2
      go_ret
      exact ⟨rfl, hBc⟩

set_option maxRecDepth 100000 in
/-- What the walk gives, for all arguments and every world that holds the tables. -/
theorem contract (H : Type) (enc : TypeId × Value → H) (W : World) (base : Nat) (args : Array Value) (ds gs : List (DataW H)) (before : List MemPlace)
    (hval : ∀ (j : Nat) t v, Tryz.f5.params[j]? = some t → args[j]? = some v → Value.okWide Tryz.prog W .any base t v)
    (hW : DataW.Whole enc Tryz.prog Tryz.f5.params.toList Rows.fnExactSameDataSpec.vars false W args.toList ds gs before) (hL : laidMetH Tryz.prog Rows.fnExactSameDataRow.laid W) :
    Calls Tryz.prog 5 args W fun e W' => ∃ v, e = .returned v ∧ Rows.fnExactSameDataSpec.post enc Tryz.prog Tryz.f5 false true false false W args v W' := by
  have hW' := hW
  obtain ⟨p, q, hA0, hV, rfl, hfz, hnd⟩ := hW
  have hA : DataW.TrodAll enc Tryz.prog W 0 (fun _ => true) true Tryz.f5.params.toList args.toList ds p := hA0
  rw [Tryz.params5] at hA hval
  obtain ⟨v0, vs0, d0, ds0, p0, q0, hargs, rfl, rfl, h0, r0⟩ := trodAll_cons hA
  obtain ⟨v1, vs1, d1, ds1, p1, q1, rfl, rfl, rfl, h1, r1⟩ := trodAll_cons r0
  obtain ⟨rfl, rfl, rfl⟩ := trodAll_nil r1
  obtain rfl : args = #[v0, v1] := by cases args; simp_all
  obtain ⟨rfl, rfl⟩ := trodVars_none hV
  obtain ⟨l0, g0, s0, m0⟩ := open_data (hval 0 22 v0 rfl rfl) h0
  obtain ⟨l1, g1, s1, m1⟩ := open_data (hval 1 22 v1 rfl rfl) h1
  clear hA0
  simp only [List.append_nil] at hW'
  have lt0 : ∀ x ∈ p0, x.block < W.heap.size := fun x hx => hW'.lt x (by simp [hx])
  have lt1 : ∀ x ∈ p1, x.block < W.heap.size := fun x hx => hW'.lt x (by simp [hx])
  refine (walk l0 v0 l1 v1 W g0 s0 m0 g1 s1 m1 (tab_of hL)).mono fun e W' ⟨he, bel⟩ => ?_
  subst he
  exact ⟨_, rfl, _, _, _, [], _, [], hW', (trodAll_cons_mk (shut_bool Tryz.underlying4 _) trodAll_mk0), (trodAll_cons_mk (Below.trod laidOut (by kernel_rfl) (of_decide_eq_true (by kernel_rfl)) h0 bel lt0) (trodAll_cons_mk (Below.trod laidOut (by kernel_rfl) (of_decide_eq_true (by kernel_rfl)) h1 bel lt1) trodAll_mk0)), rfl, bel.frame _, fun h => by cases h⟩

theorem laid_met (os : Os) : laidMet Tryz.prog Rows.fnExactSameDataRow.laid ((World.doorLaid Tryz.prog 65 os).forCall (fun _ _ => 0) ⟨#[], #[.slice none 0 0, .slice none 0 0], []⟩).memory :=
  laidMet_of_run' 24 (by kernel_rfl) (by kernel_rfl)
theorem reads (os : Os) {H : Type} (enc : TypeId × Value → H) : ∃ places, DataW.whole enc Tryz.prog ((World.doorLaid Tryz.prog 65 os).forCall (fun _ _ => 0) ⟨#[], #[.slice none 0 0, .slice none 0 0], []⟩).memory Tryz.f5.params.toList Rows.fnExactSameDataSpec.vars false #[Value.slice none 0 0, Value.slice none 0 0].toList 8 = some ([.nil, .nil], [], places) :=
  ⟨[], by kernel_rfl⟩

set_option maxRecDepth 100000 in
theorem lifted (os : Os) (started : os.Started) (H : Type) (enc : TypeId × Value → H) (F : Stop.Interp) :
    ReturnsInHanded {} Tryz.checked os 5 .any ((OpenSpec.ofChange Rows.fnExactSameDataSpec).preRow enc Tryz.prog Tryz.f5 Rows.fnExactSameDataRow.domain false Rows.fnExactSameDataRow.laid) (((OpenSpec.ofChange Rows.fnExactSameDataSpec).at F).post enc Tryz.prog Tryz.f5 false true false false) := by
  obtain ⟨places, hx⟩ := reads os enc
  refine returnsInHanded_of_row (C := Tryz.checked) (s := OpenSpec.ofChange Rows.fnExactSameDataSpec) own started (by kernel_rfl) Tryz.func5
    (witness_row_at (enc := enc) (C := Tryz.checked) false (World.doorLaid Tryz.prog 65 os) #[.slice none 0 0, .slice none 0 0] rfl (by kernel_rfl) (by kernel_rfl) (by kernel_rfl)
      (OpenSpec.preRow_of_cond 8 hx (by kernel_rfl) (fun k hk => by cases hk) (by kernel_rfl) (laid_met os))) ?_
  intro W base args ds gs before hval hW _ _ _ hL _ _
  exact contract H enc W base args ds gs before hval hW hL

theorem said : Rows.FnExactSameDataSaid :=
  OpenClaim.holds_of_cond 5 Tryz.f5 rfl rfl rfl rfl rfl rfl rfl ⟨rfl, rfl, rfl, rfl, rfl⟩ rfl rfl rfl rfl rfl (by kernel_rfl) Tryz.func5 (by kernel_rfl)
    (of_decide_eq_true (by kernel_rfl)) (by unfold Func.isWrapper; first | (rw [if_pos (by decide +kernel)]; kernel_rfl) | (rw [if_neg (by decide +kernel)]; exact ⟨rfl, rfl⟩))
    (fun os started H enc _ F => by rw [OpenClaim.pre_eq_preRow]; exact lifted os started H enc F)

theorem plain (f : FuncId) (fn : Func) (hf : Tryz.pinned.checked.prog.funcNamed ("loop.example/g00201/laws.FnExactSameData") = some f) (hfn : Tryz.pinned.checked.prog.funcs[f]? = some fn) :
    true = Tryz.pinned.checked.prog.looks [] ∧ ∀ (j : Nat) t, fn.params[j]? = some t → Tryz.pinned.checked.prog.wantsStandIn t = false := by
  obtain rfl : f = 5 := Option.some.inj ((show Tryz.prog.funcNamed ("loop.example/g00201/laws.FnExactSameData") = some 5 by kernel_rfl).symm.trans hf) |>.symm
  obtain rfl : fn = Tryz.f5 := (Option.some.inj (Tryz.func5.symm.trans hfn)).symm
  refine ⟨by kernel_rfl, fun j t ht => ?_⟩
  rw [Tryz.params5] at ht
  have hm := Array.mem_of_getElem? ht
  obtain rfl : t = 22 := by simpa using hm
  exact (show Tryz.prog.wantsStandIn 22 = false by kernel_rfl)

theorem card : Rows.FnExactSameDataCardSaid :=
  Claim7.holds_tied_plain_at .later [] _ _ _ _ said (fun _ h => by cases h) (by kernel_rfl) (fun _ h => by cases h) fnExactSameData_row_tie rfl ⟨rfl, rfl⟩ (by kernel_rfl) rfl plain (by kernel_rfl)
end Go.Proofs.YtjgpjafndaikcaaGreatDoor.fnExactSameData

namespace Go.Proofs.YtjgpjafndaikcaaGreatDoor
theorem sameData_holds : Rows.FnExactSameDataCardSaid := fnExactSameData.card
#print axioms sameData_holds
end Go.Proofs.YtjgpjafndaikcaaGreatDoor
