/-
  Proved: the tied card of laws.FnExactShowDeep: for all arguments that can be read it answers true (ShowDeep answers as its model), and its arguments read behind the call as before.
  Condition, by the row: three tables of the library lie as the program's text lays them (the card ties them). The frame follows the guide's own.
-/
import Derived.Test.YtelciainidklgaaDoorRows
import Derived.Test.YtelciainidklgaaDoorCards
import Derived.Test.YtelciainidklgaaDoorTie
import Derived.Test.YtelciainidklgaaDoorHeapLaid
import Derived.Test.YtelciainidklgaaDoorShowDI
import Derived.Test.YtelciainidklgaaDoorYgLaw
import Derived.WalkKit
import Derived.ProofKit
import Derived.OpenShut
import Derived.ShutString
import Derived.ChangeOld
import Derived.Below
import Derived.Deep.DeepHandedRow
import Derived.SevenTiedAt
import Derived.Carry
namespace Go.Proofs.YtelciainidklgaaDoor.fnExactShowDeep
open Go.ChangeShapes Go.WideShapes Go.ChangeAt Go.RowKit
open Go.ChangeMaps (open_string shut_string)
set_option linter.unusedVariables false

set_option maxHeartbeats 4000000 in
set_option maxRecDepth 100000 in
theorem walk (m : Yg) (n1 n2 : Int) (vl vr vn : Value) (w : World) (hv : YgIn w vl vr vn m) (hs : YgSmall m maxLen) (hrg : clRange m.h.cells) (hT : TabH w.heap.size w) :
    Calls Tryd.prog 3 #[.agg #[.int .i64 m.h.old, vl, vr, vn], .int .i64 n1, .int .i64 n2] w fun e w' => e = .returned (.bool true) ∧ Below w.heap.size w w' := by
  obtain ⟨o1, c1, e1⟩ := hv.1.1.len
  obtain ⟨o2, c2, e2⟩ := hv.1.2.len
  obtain ⟨o3, c3, e3⟩ := hv.2.len
  subst e1 e2 e3
  have hR := RowAt.new w 25 #[.int .i64 m.h.old, .slice o1 m.h.cells.length c1, .slice o2 m.h.roots.length c2, .slice o3 m.noted.length c3]
  have hB0 : Below w.heap.size w (w.alloc (.cells #[.int .i64 m.h.old, .slice o1 m.h.cells.length c1, .slice o2 m.h.roots.length c2, .slice o3 m.noted.length c3] 25)) := (Below.refl _ _).alloc (Nat.le_refl _) _
  have HV := hideT' hv
  have HT := hideT' hT
  have HRG := hideT' hrg
  have HR := hideT' hR
  have hzm := zero_yg.1
  have HC1 := hideT' (szYoung_any m _ _ _ _ (hv.below hB0) hs)
  -- what every later world knows
  have HF : Hid (∀ w', Below (w.heap.size + 1) (w.alloc (.cells #[.int .i64 m.h.old, .slice o1 m.h.cells.length c1, .slice o2 m.h.roots.length c2, .slice o3 m.noted.length c3] 25)) w' → (w'.cell? ⟨w.heap.size, 0, none⟩ = some (.int .i64 m.h.old) ∧ w'.cell? ⟨w.heap.size, 1, none⟩ = some (.slice o1 m.h.cells.length c1) ∧ w'.cell? ⟨w.heap.size, 2, none⟩ = some (.slice o2 m.h.roots.length c2) ∧ w'.cell? ⟨w.heap.size, 3, none⟩ = some (.slice o3 m.noted.length c3)) ∧ Below w.heap.size w w' ∧ w.heap.size + 1 ≤ w'.heap.size ∧ RowAt w' w.heap.size 25 #[.int .i64 m.h.old, .slice o1 m.h.cells.length c1, .slice o2 m.h.roots.length c2, .slice o3 m.noted.length c3]) := by
    intro w' h
    have hr := RowAt.below HR.out h (by omega)
    refine ⟨⟨?_, ?_, ?_, ?_⟩, hB0.trans (h.mono (by omega)), by have := h.size; simpa using this, hr⟩ <;> (rw [cell_of_row w' _ _ _ _ _ hr]; rfl)
  clear hv hs hR hB0 hT hrg
  go_enter Tryd.func3, Tryd.ntmps3
  go_wp2_with fail
  refine HC1.out.mono ?_
  rintro e w1 ⟨⟨r, rfl, hr⟩, hB1⟩
  have hB1' : Below (w.heap.size + 1) (w.alloc (.cells #[.int .i64 m.h.old, .slice o1 m.h.cells.length c1, .slice o2 m.h.roots.length c2, .slice o3 m.noted.length c3] 25)) w1 := hB1.mono (by simp)
  obtain ⟨⟨f0, f1, f2, f3⟩, hT1, hs1, _⟩ := HF.out w1 hB1'
  rcases hr with rfl | ⟨hr0, hsm⟩
  · go_wp2
    go_ret
    exact ⟨rfl, hT1⟩
  have hrn : ¬ r < 0 := by omega
  have HSM := hideT' hsm
  have HC2 := hideT' (toYoung_any m _ _ _ w1 (HV.out.below hT1) hsm)
  clear hsm hB1
  go_wp2_with fail
  refine HC2.out.mono ?_
  rintro e w2 ⟨⟨b2, c2', d2', rfl, hb2, hc2, hd2, hcd2, hM2⟩, hB2⟩
  have hB2' := hB1'.trans (hB2.mono hs1)
  obtain ⟨⟨g0, g1, g2, g3⟩, hT2, hs2, _⟩ := HF.out w2 hB2'
  have HC3 := hideT' (specShowDeep_any m n1 n2 _ _ _ _ _ _ w2 HSM.out hM2.rd HRG.out)
  clear hB2 hM2 f0 f1 f2 f3
  go_wp2_with fail
  refine HC3.out.mono ?_
  rintro e w3 ⟨rfl, hB3⟩
  have hB3' := hB2'.trans (hB3.mono hs2)
  obtain ⟨⟨k0, k1, k2, k3⟩, hT3, hs3, _⟩ := HF.out w3 hB3'
  obtain ⟨sh, hsh⟩ : ∃ sh, sh = showD m n1 n2 := ⟨_, rfl⟩
  rw [← hsh]
  have HSH := hideT' hsh
  have HC4 := hideT' (toYoung_any m _ _ _ w3 (HV.out.below hT3) HSM.out)
  clear hsh hB3 g0 g1 g2 g3
  obtain ⟨st, q⟩ := sh
  go_wp2_with fail
  refine HC4.out.mono ?_
  rintro e w4 ⟨⟨b4, c4, d4, rfl, hb4, hc4, hd4, hcd4, hM4⟩, hB4⟩
  have hB4' := hB3'.trans (hB4.mono hs3)
  have hs4 := (HF.out w4 hB4').2.2.1
  obtain ⟨l4b, l4c, l4d⟩ := hM4.lt
  have hBn : Below w4.heap.size w4 (w4.alloc (.cells #[.int .i64 m.h.old, slR b4 m.h.cells, slR c4 m.h.roots, slR d4 m.noted] 31)) := (Below.refl _ _).alloc (Nat.le_refl _) _
  have hB5' := hB4'.trans (hBn.mono hs4)
  have hT5 := (HF.out _ hB5').2.1
  have hRx := RowAt.new w4 31 #[.int .i64 m.h.old, slR b4 m.h.cells, slR c4 m.h.roots, slR d4 m.noted]
  have hM5 := hM4.below hBn l4b l4c l4d
  have HC5 := hideT' (implShowDeep_any m n1 n2 _ _ _ (w4.alloc (.cells #[.int .i64 m.h.old, slR b4 m.h.cells, slR c4 m.h.roots, slR d4 m.noted] 31)) HSM.out hM5 HRG.out ((HT.out.on hT5).up hT5.size))
  have HX5 := hideT' (And.intro hRx hM5)
  clear hB4 hM4 hRx hM5 k0 k1 k2 k3 hBn hT5
  go_wp2_with fail
  refine HC5.out.mono ?_
  rintro e w6 ⟨rfl, hB6⟩
  rw [← HSH.out]
  have hs6 := hB6.size
  simp only [World.size_alloc] at hs6
  have hB6' := hB5'.trans (hB6.mono (by simp; omega))
  obtain ⟨_, hT6, _, hR6⟩ := HF.out w6 hB6'
  have hX6 := RowAt.below HX5.out.1 hB6 (by simp)
  have hM6 := HX5.out.2.below hB6 (by simp; omega) (by simp; omega) (by simp; omega)
  have hqq : (q != q) = false := by cases q <;> rfl
  clear hB6 hB4' hB5'
  go_wp2_with fail
  have hS : (RowAt w6.drew w4.heap.size 31 #[.int .i64 m.h.old, slR b4 m.h.cells, slR c4 m.h.roots, slR d4 m.noted] ∧ RowAt w6.drew w.heap.size 25 #[.int .i64 m.h.old, .slice o1 m.h.cells.length c1, .slice o2 m.h.roots.length c2, .slice o3 m.noted.length c3]) ∧ YgAt w6.drew b4 c4 d4 m := ⟨⟨hX6, hR6⟩, hM6⟩
  refine held_begin (fun w' => (RowAt w' w4.heap.size 31 #[.int .i64 m.h.old, slR b4 m.h.cells, slR c4 m.h.roots, slR d4 m.noted] ∧ RowAt w' w.heap.size 25 #[.int .i64 m.h.old, .slice o1 m.h.cells.length c1, .slice o2 m.h.roots.length c2, .slice o3 m.noted.length c3]) ∧ YgAt w' b4 c4 d4 m) (by kernel_rfl) ?_
  refine held_valS 0 (some 43) rfl rfl (by kernel_rfl) (by kernel_rfl) (by kernel_rfl) noPanic_put rfl (.agg (ygC b4 c4 d4 m)) (fun w' h => run_loadRow (.tmp 10) 31 rfl w4.heap.size rfl _ _ h.1.1 Tryd.underlying31 zero_yg.2) hS ?_
  simp only [Act.put, List.setIfInBounds_toArray, List.set_cons_zero, List.set_cons_succ]
  refine held_valS 1 (some 44) rfl rfl (by kernel_rfl) (by kernel_rfl) (by kernel_rfl) noPanic_put rfl (.agg #[.int .i64 m.h.old, .slice o1 m.h.cells.length c1, .slice o2 m.h.roots.length c2, .slice o3 m.noted.length c3]) (fun w' h => run_loadRow (.tmp 3) 25 rfl w.heap.size rfl _ _ h.1.2 Tryd.underlying25 size_lyg) hS ?_
  simp only [Act.put, List.setIfInBounds_toArray, List.set_cons_zero, List.set_cons_succ]
  refine held_call 2 (some 45) (by kernel_rfl) rfl rfl rfl 11 #[.agg #[.int .i64 m.h.old, .slice o1 m.h.cells.length c1, .slice o2 m.h.roots.length c2, .slice o3 m.noted.length c3]] (by go_simp) _ (toYoung_any m _ _ _ w6.drew (HV.out.below hT6.drew) HSM.out) ?_
  rintro e w7 ⟨⟨b7, c7, d7, rfl, hb7, hc7, hd7, hcd7, hM7⟩, hB7⟩
  have hB7 : Below w6.heap.size w6 w7 := ⟨hB7.os, hB7.tape, hB7.output, hB7.size, hB7.block⟩
  obtain ⟨l6b, l6c, l6d⟩ := hM6.lt
  have hT7 := hT6.trans (hB7.mono hT6.size)
  have hM67 := hM6.below hB7 l6b l6c l6d
  have hS7 : (RowAt w7 w4.heap.size 31 #[.int .i64 m.h.old, slR b4 m.h.cells, slR c4 m.h.roots, slR d4 m.noted] ∧ RowAt w7 w.heap.size 25 #[.int .i64 m.h.old, .slice o1 m.h.cells.length c1, .slice o2 m.h.roots.length c2, .slice o3 m.noted.length c3]) ∧ YgAt w7 b4 c4 d4 m := ⟨⟨RowAt.below hX6 hB7 (RowAt.lt hX6), RowAt.below hR6 hB7 (RowAt.lt hR6)⟩, hM67⟩
  refine ⟨_, rfl, hS7, ?_⟩
  simp only [Act.put, List.setIfInBounds_toArray, List.set_cons_zero, List.set_cons_succ]
  refine held_call 3 (some 46) (by kernel_rfl) rfl rfl rfl 13 #[.agg (ygC b4 c4 d4 m), .agg (ygC b7 c7 d7 m)] (by go_simp) _ (eqYoung_in m _ _ _ _ _ _ w7 HSM.out hM67.rd hM7.rd) ?_
  rintro e w8 ⟨rfl, hB8⟩
  have hT8 := hT7.trans (hB8.mono hT7.size)
  obtain ⟨l7b, l7c, l7d⟩ := hM67.lt
  have hS8 : (RowAt w8 w4.heap.size 31 #[.int .i64 m.h.old, slR b4 m.h.cells, slR c4 m.h.roots, slR d4 m.noted] ∧ RowAt w8 w.heap.size 25 #[.int .i64 m.h.old, .slice o1 m.h.cells.length c1, .slice o2 m.h.roots.length c2, .slice o3 m.noted.length c3]) ∧ YgAt w8 b4 c4 d4 m := ⟨⟨RowAt.below hS7.1.1 hB8 (RowAt.lt hS7.1.1), RowAt.below hS7.1.2 hB8 (RowAt.lt hS7.1.2)⟩, hM67.below hB8 l7b l7c l7d⟩
  refine ⟨_, rfl, hS8, ?_⟩
  simp only [Act.put, List.setIfInBounds_toArray, List.set_cons_zero, List.set_cons_succ]
  refine held_val 4 (some 47) rfl rfl (by kernel_rfl) (by kernel_rfl) (by kernel_rfl) noPanic_put rfl (.bool false) (fun _ => by go_simp) hS8 ?_
  simp only [Act.put, List.setIfInBounds_toArray, List.set_cons_zero, List.set_cons_succ]
  refine wpAnyH_done (by kernel_rfl) ?_ _
  refine NoPanic.normal ?_
  go_wp2
  go_ret
  exact ⟨rfl, hT8⟩

set_option maxRecDepth 100000 in
/-- What the walk gives, for all arguments and every world that holds the tables. -/
theorem contract (H : Type) (enc : TypeId × Value → H) (W : World) (base : Nat) (args : Array Value) (ds gs : List (DataW H)) (before : List MemPlace)
    (hval : ∀ (j : Nat) t v, Tryd.f3.params[j]? = some t → args[j]? = some v → Value.okWide Tryd.prog W .any base t v)
    (hW : DataW.Whole enc Tryd.prog Tryd.f3.params.toList Rows.fnExactShowDeepSpec.vars false W args.toList ds gs before) (hL : laidMetH Tryd.prog Rows.fnExactShowDeepRow.laid W) :
    Calls Tryd.prog 3 args W fun e W' => ∃ v, e = .returned v ∧ Rows.fnExactShowDeepSpec.post enc Tryd.prog Tryd.f3 false true false false W args v W' := by
  have hW' := hW
  obtain ⟨p, q, hA0, hV, rfl, hfz, hnd⟩ := hW
  have hA : DataW.TrodAll enc Tryd.prog W 0 (fun _ => true) true Tryd.f3.params.toList args.toList ds p := hA0
  rw [Tryd.params3] at hA hval
  obtain ⟨v0, vs0, d0, ds0, p0, q0, hargs, rfl, rfl, h0, r0⟩ := trodAll_cons hA
  obtain ⟨v1, vs1, d1, ds1, p1, q1, rfl, rfl, rfl, h1, r1⟩ := trodAll_cons r0
  obtain ⟨v2, vs2, d2, ds2, p2, q2, rfl, rfl, rfl, h2, r2⟩ := trodAll_cons r1
  obtain ⟨rfl, rfl, rfl⟩ := trodAll_nil r2
  obtain rfl : args = #[v0, v1, v2] := by cases args; simp_all
  obtain ⟨rfl, rfl⟩ := trodVars_none hV
  obtain ⟨m0, vl0, vr0, vn0, rfl, g0, s0, n0⟩ := open_young (hval 0 25 v0 rfl rfl) h0
  obtain ⟨n1, rfl, rfl, rfl, w1⟩ := open_int Tryd.underlying3 (hval 1 3 v1 rfl rfl) h1
  obtain ⟨n2, rfl, rfl, rfl, w2⟩ := open_int Tryd.underlying3 (hval 2 3 v2 rfl rfl) h2
  clear hA0
  simp only [List.append_nil] at hW'
  have lt0 : ∀ x ∈ p0, x.block < W.heap.size := fun x hx => hW'.lt x (by simp [hx])
  refine (walk m0 n1 n2 vl0 vr0 vn0 W g0 s0 n0 (tab_of hL)).mono fun e W' ⟨he, bel⟩ => ?_
  subst he
  exact ⟨_, rfl, _, _, _, [], _, [], hW', (trodAll_cons_mk (shut_bool Tryd.underlying4 _) trodAll_mk0), (trodAll_cons_mk (Below.trod laidOutR (by kernel_rfl) (of_decide_eq_true (by kernel_rfl)) h0 bel lt0) (trodAll_cons_mk (shut_int Tryd.underlying3 w1) (trodAll_cons_mk (shut_int Tryd.underlying3 w2) trodAll_mk0))), rfl, bel.frame _, fun h => by cases h⟩

theorem laid_met (os : Os) : laidMet Tryd.prog Rows.fnExactShowDeepRow.laid ((World.doorLaid Tryd.prog 65 os).forCall (fun _ _ => 0) ⟨#[], #[.agg #[.int .i64 0, .slice none 0 0, .slice none 0 0, .slice none 0 0], .int .i64 0, .int .i64 0], []⟩).memory :=
  laidMet_of_run' 24 (by kernel_rfl) (by kernel_rfl)
theorem reads (os : Os) {H : Type} (enc : TypeId × Value → H) : ∃ places, DataW.whole enc Tryd.prog ((World.doorLaid Tryd.prog 65 os).forCall (fun _ _ => 0) ⟨#[], #[.agg #[.int .i64 0, .slice none 0 0, .slice none 0 0, .slice none 0 0], .int .i64 0, .int .i64 0], []⟩).memory Tryd.f3.params.toList Rows.fnExactShowDeepSpec.vars false (#[.agg #[.int .i64 0, .slice none 0 0, .slice none 0 0, .slice none 0 0], .int .i64 0, .int .i64 0] : Array Value).toList 8 = some ([.agg [.lit (.int .i64 0), .nil, .nil, .nil], .lit (.int .i64 0), .lit (.int .i64 0)], [], places) :=
  ⟨[], by kernel_rfl⟩

set_option maxRecDepth 100000 in
theorem lifted (os : Os) (started : os.Started) (H : Type) (enc : TypeId × Value → H) (F : Stop.Interp) :
    ReturnsInHanded {} Tryd.checked os 3 .any ((OpenSpec.ofChange Rows.fnExactShowDeepSpec).preRow enc Tryd.prog Tryd.f3 Rows.fnExactShowDeepRow.domain false Rows.fnExactShowDeepRow.laid) (((OpenSpec.ofChange Rows.fnExactShowDeepSpec).at F).post enc Tryd.prog Tryd.f3 false true false false) := by
  obtain ⟨places, hx⟩ := reads os enc
  refine returnsInHanded_of_row (C := Tryd.checked) (s := OpenSpec.ofChange Rows.fnExactShowDeepSpec) own started (by kernel_rfl) Tryd.func3
    (witness_row_at (enc := enc) (C := Tryd.checked) false (World.doorLaid Tryd.prog 65 os) #[.agg #[.int .i64 0, .slice none 0 0, .slice none 0 0, .slice none 0 0], .int .i64 0, .int .i64 0] rfl (by kernel_rfl) (by kernel_rfl) (by kernel_rfl)
      (OpenSpec.preRow_of_cond 8 hx (by kernel_rfl) (fun k hk => by cases hk) (by kernel_rfl) (laid_met os))) ?_
  intro W base args ds gs before hval hW _ _ _ hL _ _
  exact contract H enc W base args ds gs before hval hW hL

theorem said : Rows.FnExactShowDeepSaid :=
  OpenClaim.holds_of_cond 3 Tryd.f3 rfl rfl rfl rfl rfl rfl rfl ⟨rfl, rfl, rfl, rfl, rfl⟩ rfl rfl rfl rfl rfl (by kernel_rfl) Tryd.func3 (by kernel_rfl)
    (of_decide_eq_true (by kernel_rfl)) (by unfold Func.isWrapper; first | (rw [if_pos (by decide +kernel)]; kernel_rfl) | (rw [if_neg (by decide +kernel)]; exact ⟨rfl, rfl⟩))
    (fun os started H enc _ F => by rw [OpenClaim.pre_eq_preRow]; exact lifted os started H enc F)

theorem plain (f : FuncId) (fn : Func) (hf : Tryd.pinned.checked.prog.funcNamed ("loop.example/g00201/laws.FnExactShowDeep") = some f) (hfn : Tryd.pinned.checked.prog.funcs[f]? = some fn) :
    false = Tryd.pinned.checked.prog.looks [] ∧ ∀ (j : Nat) t, fn.params[j]? = some t → Tryd.pinned.checked.prog.wantsStandIn t = false := by
  obtain rfl : f = 3 := Option.some.inj ((show Tryd.prog.funcNamed ("loop.example/g00201/laws.FnExactShowDeep") = some 3 by kernel_rfl).symm.trans hf) |>.symm
  obtain rfl : fn = Tryd.f3 := (Option.some.inj (Tryd.func3.symm.trans hfn)).symm
  refine ⟨by kernel_rfl, fun j t ht => ?_⟩
  rw [Tryd.params3] at ht
  have hm := Array.mem_of_getElem? ht
  have : t = 3 ∨ t = 25 := by simpa [or_comm, or_assoc, or_left_comm] using hm
  rcases this with rfl | rfl
  · exact (show Tryd.prog.wantsStandIn 3 = false by kernel_rfl)
  · exact (show Tryd.prog.wantsStandIn 25 = false by kernel_rfl)

theorem card : Rows.FnExactShowDeepCardSaid :=
  Claim7.holds_tied_plain_at .later [] _ _ _ _ said (fun _ h => by cases h) (by kernel_rfl) (fun _ h => by cases h) fnExactShowDeep_row_tie rfl ⟨rfl, rfl⟩ (by kernel_rfl) rfl plain (by kernel_rfl)
end Go.Proofs.YtelciainidklgaaDoor.fnExactShowDeep

namespace Go.Proofs.YtelciainidklgaaDoor
theorem showDeep_holds : Rows.FnExactShowDeepCardSaid := fnExactShowDeep.card
#print axioms showDeep_holds
end Go.Proofs.YtelciainidklgaaDoor
