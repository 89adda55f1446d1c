/-
  Proved: the tied card of laws.FnExactGoodMacro: for all arguments that can be read it answers true (GoodMacro answers as its model), and its arguments read behind the call as before.
  Condition, by the row: three tables of the library lie as the program's text lays them (the card ties them). The frame follows the guide's own.
-/
import Derived.Test.YtehjejjkfeljmaaGreatDoorRows
import Derived.Test.YtehjejjkfeljmaaGreatDoorCards
import Derived.Test.YtehjejjkfeljmaaGreatDoorTie
import Derived.Test.YtehjejjkfeljmaaGreatDoorLaid
import Derived.Test.YtehjejjkfeljmaaGreatDoorPkMacSpec
import Derived.WalkKit
import Derived.ProofKit
import Derived.OpenShut
import Derived.ShutString
import Derived.ChangeOld
import Derived.Below
import Derived.Deep.DeepHandedRow
import Derived.SevenTiedAt
import Derived.Carry
namespace Go.Proofs.YtehjejjkfeljmaaGreatDoor.fnExactGoodMacro
open Go.ChangeShapes Go.WideShapes Go.ChangeAt Go.RowKit
open Go.ChangeMaps (open_string shut_string)
set_option linter.unusedVariables false

set_option maxHeartbeats 4000000 in
set_option maxRecDepth 100000 in
theorem walk (m : Mac) (vl vr : Value) (w : World) (hv : MacIn w vl vr m) (hs : MacSmall m maxLen) (hT : Tab w.heap.size w) :
    Calls Tryz.prog 4 #[.agg #[.string m.name, vl, vr]] w fun e w' => e = .returned (.bool true) ∧ Below w.heap.size w w' := by
  obtain ⟨o1, c1, e1⟩ := hv.1.len
  obtain ⟨o2, c2, e2⟩ := hv.2.len
  subst e1
  subst e2
  obtain ⟨cs, hcs⟩ : ∃ cs : Array Value, cs = #[.string m.name, .slice o1 m.lits.length c1, .slice o2 m.rules.length c2] := ⟨_, rfl⟩
  have hR := RowAt.new w 41 #[.string m.name, .slice o1 m.lits.length c1, .slice o2 m.rules.length c2]
  have hB0 : Below w.heap.size w (w.alloc (.cells #[.string m.name, .slice o1 m.lits.length c1, .slice o2 m.rules.length c2] 41)) := (Below.refl _ _).alloc (Nat.le_refl _) _
  have HV := hideT' hv
  have HT := hideT' hT
  have HR := hideT' hR
  have hzm := zero_mac.1
  have HC1 := hideT' (szMacro_any m _ _ 1048576 _ (hv.below hB0) hs (by omega))
  -- what every later world knows
  have HF : Hid (∀ w', Below (w.heap.size + 1) (w.alloc (.cells #[.string m.name, .slice o1 m.lits.length c1, .slice o2 m.rules.length c2] 41)) w' → (w'.cell? ⟨w.heap.size, 0, none⟩ = some (.string m.name) ∧ w'.cell? ⟨w.heap.size, 1, none⟩ = some (.slice o1 m.lits.length c1) ∧ w'.cell? ⟨w.heap.size, 2, none⟩ = some (.slice o2 m.rules.length c2)) ∧ Below w.heap.size w w' ∧ w.heap.size + 1 ≤ w'.heap.size ∧ RowAt w' w.heap.size 41 #[.string m.name, .slice o1 m.lits.length c1, .slice o2 m.rules.length c2]) := by
    intro w' h
    have hr := RowAt.below HR.out h (by omega)
    refine ⟨⟨?_, ?_, ?_⟩, hB0.trans (h.mono (by omega)), by have := h.size; simpa using this, hr⟩ <;> (rw [cell_of_row w' _ _ _ _ _ hr]; rfl)
  clear hv hs hT hR hcs hB0
  go_enter Tryz.func4, Tryz.ntmps4
  go_wp2_with fail
  refine HC1.out.mono ?_
  rintro e w1 ⟨⟨r, rfl, hr⟩, hB1⟩
  have hB1' : Below (w.heap.size + 1) (w.alloc (.cells #[.string m.name, .slice o1 m.lits.length c1, .slice o2 m.rules.length c2] 41)) w1 := hB1.mono (by simp)
  obtain ⟨⟨f0, f1, f2⟩, hT1, hs1, _⟩ := HF.out w1 hB1'
  rcases hr with rfl | ⟨hr0, hsm⟩
  · go_wp2
    go_ret
    exact ⟨rfl, hT1⟩
  have hrn : ¬ r < 0 := by omega
  have HSM := hideT' hsm
  have HC2 := hideT' (toMacro_any m _ _ w1 (HV.out.below hT1) hsm.2.1 hsm.2.2.1)
  clear hsm hB1
  go_wp2_with fail
  refine HC2.out.mono ?_
  rintro e w2 ⟨⟨b2, c2', rfl, hb2, hc2, hM2⟩, hB2⟩
  have hB2' := hB1'.trans (hB2.mono hs1)
  obtain ⟨⟨g0, g1, g2⟩, hT2, hs2, _⟩ := HF.out w2 hB2'
  have HC3 := hideT' (specGoodMacro_any m b2 c2' w2 HSM.out hM2)
  clear hB2 hM2 f0 f1 f2
  go_wp2_with fail
  refine HC3.out.mono ?_
  rintro e w3 ⟨rfl, hB3⟩
  have hB3' := hB2'.trans (hB3.mono hs2)
  obtain ⟨⟨k0, k1, k2⟩, hT3, hs3, _⟩ := HF.out w3 hB3'
  obtain ⟨q, hq⟩ : ∃ q, q = macOk m := ⟨_, rfl⟩
  rw [← hq]
  have HQ := hideT' hq
  have HC4 := hideT' (toMacro_any m _ _ w3 (HV.out.below hT3) HSM.out.2.1 HSM.out.2.2.1)
  clear hq hB3 g0 g1 g2
  go_wp2_with fail
  refine HC4.out.mono ?_
  rintro e w4 ⟨⟨b4, c4, rfl, hb4, hc4, hM4⟩, hB4⟩
  have hB4' := hB3'.trans (hB4.mono hs3)
  have hs4 := (HF.out w4 hB4').2.2.1
  have l4b := hM4.1.lt
  have l4c := hM4.2.lt
  have hBn : Below w4.heap.size w4 (w4.alloc (.cells #[.string m.name, slR b4 m.lits, slR c4 m.rules] 26)) := (Below.refl _ _).alloc (Nat.le_refl _) _
  have hB5' := hB4'.trans (hBn.mono hs4)
  have hT5 := (HF.out _ hB5').2.1
  have hRx := RowAt.new w4 26 #[.string m.name, slR b4 m.lits, slR c4 m.rules]
  have hM5 := hM4.below hBn l4b l4c
  have HC5 := hideT' (implGoodMacro_any m b4 c4 w.heap.size (w4.alloc (.cells #[.string m.name, slR b4 m.lits, slR c4 m.rules] 26)) HSM.out hM5 (HT.out.on hT5) (by simp; omega))
  have HX5 := hideT' (And.intro hRx hM5)
  clear hB4 hM4 hRx hM5 k0 k1 k2 hBn hT5
  go_wp2_with fail
  refine HC5.out.mono ?_
  rintro e w6 ⟨rfl, hB6⟩
  have hs6 := hB6.size
  simp only [World.size_alloc] at hs6
  have hB6' := hB5'.trans (hB6.mono (by simp; omega))
  obtain ⟨_, hT6, _, hR6⟩ := HF.out w6 hB6'
  have hX6 := RowAt.below HX5.out.1 hB6 (by simp)
  have hM6 := HX5.out.2.below hB6 (by simp; omega) (by simp; omega)
  rw [← HQ.out]
  have hqq : (q != q) = false := by cases q <;> rfl
  clear hB6 hB4' hB5'
  go_wp2_with fail
  have hS : (RowAt w6.drew w4.heap.size 26 #[.string m.name, slR b4 m.lits, slR c4 m.rules] ∧ RowAt w6.drew w.heap.size 41 #[.string m.name, .slice o1 m.lits.length c1, .slice o2 m.rules.length c2]) ∧ MacAt w6.drew b4 c4 m := ⟨⟨hX6, hR6⟩, hM6⟩
  refine held_begin (fun w' => (RowAt w' w4.heap.size 26 #[.string m.name, slR b4 m.lits, slR c4 m.rules] ∧ RowAt w' w.heap.size 41 #[.string m.name, .slice o1 m.lits.length c1, .slice o2 m.rules.length c2]) ∧ MacAt w' b4 c4 m) (by kernel_rfl) ?_
  refine held_valS 0 (some 22) rfl rfl (by kernel_rfl) (by kernel_rfl) (by kernel_rfl) noPanic_put rfl (.agg (macC b4 c4 m)) (fun w' h => run_load3 (.tmp 5) 26 rfl w4.heap.size rfl _ _ h.1.1 Tryz.underlying26 zero_mac.2) hS ?_
  simp only [Act.put, List.setIfInBounds_toArray, List.set_cons_zero, List.set_cons_succ]
  refine held_valS 1 (some 23) rfl rfl (by kernel_rfl) (by kernel_rfl) (by kernel_rfl) noPanic_put rfl (.agg #[.string m.name, .slice o1 m.lits.length c1, .slice o2 m.rules.length c2]) (fun w' h => run_load3 (.tmp 1) 41 rfl w.heap.size rfl _ _ h.1.2 Tryz.underlying41 size_lmac) hS ?_
  simp only [Act.put, List.setIfInBounds_toArray, List.set_cons_zero, List.set_cons_succ]
  refine held_call 2 (some 24) (by kernel_rfl) rfl rfl rfl 14 #[.agg #[.string m.name, .slice o1 m.lits.length c1, .slice o2 m.rules.length c2]] (by go_simp) _ (toMacro_any m _ _ w6.drew (HV.out.below hT6.drew) HSM.out.2.1 HSM.out.2.2.1) ?_
  rintro e w7 ⟨⟨b7, c7, rfl, hb7, hc7, hM7⟩, hB7⟩
  have hB7 : Below w6.heap.size w6 w7 := ⟨hB7.os, hB7.tape, hB7.output, hB7.size, hB7.block⟩
  have l6b := hM6.1.lt
  have l6c := hM6.2.lt
  have hT7 := hT6.trans (hB7.mono hT6.size)
  have hM67 := hM6.below hB7 l6b l6c
  have hS7 : (RowAt w7 w4.heap.size 26 #[.string m.name, slR b4 m.lits, slR c4 m.rules] ∧ RowAt w7 w.heap.size 41 #[.string m.name, .slice o1 m.lits.length c1, .slice o2 m.rules.length c2]) ∧ MacAt w7 b4 c4 m := ⟨⟨RowAt.below hX6 hB7 (RowAt.lt hX6), RowAt.below hR6 hB7 (RowAt.lt hR6)⟩, hM67⟩
  refine ⟨_, rfl, hS7, ?_⟩
  simp only [Act.put, List.setIfInBounds_toArray, List.set_cons_zero, List.set_cons_succ]
  refine held_call 3 (some 25) (by kernel_rfl) rfl rfl rfl 16 #[.agg (macC b4 c4 m), .agg (macC b7 c7 m)] (by go_simp) _ (eqMacro_any m b4 c4 b7 c7 w7 HSM.out.2.1 HSM.out.2.2.1 hM67 hM7) ?_
  rintro e w8 ⟨rfl, hB8⟩
  have hT8 := hT7.trans (hB8.mono hT7.size)
  have l7b := hM67.1.lt
  have l7c := hM67.2.lt
  have hS8 : (RowAt w8 w4.heap.size 26 #[.string m.name, slR b4 m.lits, slR c4 m.rules] ∧ RowAt w8 w.heap.size 41 #[.string m.name, .slice o1 m.lits.length c1, .slice o2 m.rules.length c2]) ∧ MacAt w8 b4 c4 m := ⟨⟨RowAt.below hS7.1.1 hB8 (RowAt.lt hS7.1.1), RowAt.below hS7.1.2 hB8 (RowAt.lt hS7.1.2)⟩, hM67.below hB8 l7b l7c⟩
  refine ⟨_, rfl, hS8, ?_⟩
  simp only [Act.put, List.setIfInBounds_toArray, List.set_cons_zero, List.set_cons_succ]
  refine held_val 4 (some 26) rfl rfl (by kernel_rfl) (by kernel_rfl) (by kernel_rfl) noPanic_put rfl (.bool false) (fun _ => by go_simp) hS8 ?_
  simp only [Act.put, List.setIfInBounds_toArray, List.set_cons_zero, List.set_cons_succ]
  refine wpAnyH_done (by kernel_rfl) ?_ _
  refine NoPanic.normal ?_
  go_wp2
  go_ret
  exact ⟨rfl, hT8⟩

set_option maxRecDepth 100000 in
/-- What the walk gives, for all arguments and every world that holds the tables. -/
theorem contract (H : Type) (enc : TypeId × Value → H) (W : World) (base : Nat) (args : Array Value) (ds gs : List (DataW H)) (before : List MemPlace)
    (hval : ∀ (j : Nat) t v, Tryz.f4.params[j]? = some t → args[j]? = some v → Value.okWide Tryz.prog W .any base t v)
    (hW : DataW.Whole enc Tryz.prog Tryz.f4.params.toList Rows.fnExactGoodMacroSpec.vars false W args.toList ds gs before) (hL : laidMetH Tryz.prog Rows.fnExactGoodMacroRow.laid W) :
    Calls Tryz.prog 4 args W fun e W' => ∃ v, e = .returned v ∧ Rows.fnExactGoodMacroSpec.post enc Tryz.prog Tryz.f4 false true false false W args v W' := by
  have hW' := hW
  obtain ⟨p, q, hA0, hV, rfl, hfz, hnd⟩ := hW
  have hA : DataW.TrodAll enc Tryz.prog W 0 (fun _ => true) true Tryz.f4.params.toList args.toList ds p := hA0
  rw [Tryz.params4] at hA hval
  obtain ⟨v0, vs0, d0, ds0, p0, q0, hargs, rfl, rfl, h0, r0⟩ := trodAll_cons hA
  obtain ⟨rfl, rfl, rfl⟩ := trodAll_nil r0
  obtain rfl : args = #[v0] := by cases args; simp_all
  obtain ⟨rfl, rfl⟩ := trodVars_none hV
  obtain ⟨m0, vl0, vr0, rfl, g0, s0⟩ := open_macro (hval 0 41 v0 rfl rfl) h0
  clear hA0
  simp only [List.append_nil] at hW'
  have lt0 : ∀ x ∈ p0, x.block < W.heap.size := fun x hx => hW'.lt x (by simp [hx])
  refine (walk m0 vl0 vr0 W g0 s0 (tab_of hL)).mono fun e W' ⟨he, bel⟩ => ?_
  subst he
  exact ⟨_, rfl, _, _, _, [], _, [], hW', (trodAll_cons_mk (shut_bool Tryz.underlying4 _) trodAll_mk0), (trodAll_cons_mk (Below.trod laidOutR (by kernel_rfl) (of_decide_eq_true (by kernel_rfl)) h0 bel lt0) trodAll_mk0), rfl, bel.frame _, fun h => by cases h⟩

theorem laid_met (os : Os) : laidMet Tryz.prog Rows.fnExactGoodMacroRow.laid ((World.doorLaid Tryz.prog 65 os).forCall (fun _ _ => 0) ⟨#[], #[.agg #[.string ByteArray.empty, .slice none 0 0, .slice none 0 0]], []⟩).memory :=
  laidMet_of_run' 24 (by kernel_rfl) (by kernel_rfl)
theorem reads (os : Os) {H : Type} (enc : TypeId × Value → H) : ∃ places, DataW.whole enc Tryz.prog ((World.doorLaid Tryz.prog 65 os).forCall (fun _ _ => 0) ⟨#[], #[.agg #[.string ByteArray.empty, .slice none 0 0, .slice none 0 0]], []⟩).memory Tryz.f4.params.toList Rows.fnExactGoodMacroSpec.vars false #[Value.agg #[.string ByteArray.empty, .slice none 0 0, .slice none 0 0]].toList 8 = some ([.agg [.lit (.string []), .nil, .nil]], [], places) :=
  ⟨[], by kernel_rfl⟩

set_option maxRecDepth 100000 in
theorem lifted (os : Os) (started : os.Started) (H : Type) (enc : TypeId × Value → H) (F : Stop.Interp) :
    ReturnsInHanded {} Tryz.checked os 4 .any ((OpenSpec.ofChange Rows.fnExactGoodMacroSpec).preRow enc Tryz.prog Tryz.f4 Rows.fnExactGoodMacroRow.domain false Rows.fnExactGoodMacroRow.laid) (((OpenSpec.ofChange Rows.fnExactGoodMacroSpec).at F).post enc Tryz.prog Tryz.f4 false true false false) := by
  obtain ⟨places, hx⟩ := reads os enc
  refine returnsInHanded_of_row (C := Tryz.checked) (s := OpenSpec.ofChange Rows.fnExactGoodMacroSpec) own started (by kernel_rfl) Tryz.func4
    (witness_row_at (enc := enc) (C := Tryz.checked) false (World.doorLaid Tryz.prog 65 os) #[.agg #[.string ByteArray.empty, .slice none 0 0, .slice none 0 0]] rfl (by kernel_rfl) (by kernel_rfl) (by kernel_rfl)
      (OpenSpec.preRow_of_cond 8 hx (by kernel_rfl) (fun k hk => by cases hk) (by kernel_rfl) (laid_met os))) ?_
  intro W base args ds gs before hval hW _ _ _ hL _ _
  exact contract H enc W base args ds gs before hval hW hL

theorem said : Rows.FnExactGoodMacroSaid :=
  OpenClaim.holds_of_cond 4 Tryz.f4 rfl rfl rfl rfl rfl rfl rfl ⟨rfl, rfl, rfl, rfl, rfl⟩ rfl rfl rfl rfl rfl (by kernel_rfl) Tryz.func4 (by kernel_rfl)
    (of_decide_eq_true (by kernel_rfl)) (by unfold Func.isWrapper; first | (rw [if_pos (by decide +kernel)]; kernel_rfl) | (rw [if_neg (by decide +kernel)]; exact ⟨rfl, rfl⟩))
    (fun os started H enc _ F => by rw [OpenClaim.pre_eq_preRow]; exact lifted os started H enc F)

theorem plain (f : FuncId) (fn : Func) (hf : Tryz.pinned.checked.prog.funcNamed ("loop.example/g00201/laws.FnExactGoodMacro") = some f) (hfn : Tryz.pinned.checked.prog.funcs[f]? = some fn) :
    false = Tryz.pinned.checked.prog.looks [] ∧ ∀ (j : Nat) t, fn.params[j]? = some t → Tryz.pinned.checked.prog.wantsStandIn t = false := by
  obtain rfl : f = 4 := Option.some.inj ((show Tryz.prog.funcNamed ("loop.example/g00201/laws.FnExactGoodMacro") = some 4 by kernel_rfl).symm.trans hf) |>.symm
  obtain rfl : fn = Tryz.f4 := (Option.some.inj (Tryz.func4.symm.trans hfn)).symm
  refine ⟨by kernel_rfl, fun j t ht => ?_⟩
  rw [Tryz.params4] at ht
  obtain rfl : t = 41 := by simpa using Array.mem_of_getElem? ht
  exact (show Tryz.prog.wantsStandIn 41 = false by kernel_rfl)

theorem card : Rows.FnExactGoodMacroCardSaid :=
  Claim7.holds_tied_plain_at .later [] _ _ _ _ said (fun _ h => by cases h) (by kernel_rfl) (fun _ h => by cases h) fnExactGoodMacro_row_tie rfl ⟨rfl, rfl⟩ (by kernel_rfl) rfl plain (by kernel_rfl)
end Go.Proofs.YtehjejjkfeljmaaGreatDoor.fnExactGoodMacro

namespace Go.Proofs.YtehjejjkfeljmaaGreatDoor
theorem goodMacro_holds : Rows.FnExactGoodMacroCardSaid := fnExactGoodMacro.card
#print axioms goodMacro_holds
end Go.Proofs.YtehjejjkfeljmaaGreatDoor
