/-
  Proved: the tied card of laws.FnExactChineseNat: for all arguments that can be read it answers true (ChineseNat answers as its model, and leaves its rows as they were), and its arguments read behind the call as before.
  Condition, by the row: three tables of the library lie as the program's text lays them (the card ties them). The frame follows the guide's own.
-/
import Derived.Test.YthbnacikomimfaaDoorRows
import Derived.Test.YthbnacikomimfaaDoorCards
import Derived.Test.YthbnacikomimfaaDoorTie
import Derived.Test.YthbnacikomimfaaDoorLaid
import Derived.Test.YthbnacikomimfaaDoorTailChineseNatA
import Derived.Test.YthbnacikomimfaaDoorTailChineseNatB
import Derived.WalkKit
import Derived.ProofKit
import Derived.OpenShut
import Derived.ShutString
import Derived.ChangeOld
import Derived.Below
import Derived.Deep.DeepHandedRow
import Derived.SevenTiedAt
import Derived.Carry
namespace Go.Proofs.YthbnacikomimfaaDoor.fnExactChineseNat
open Go.ChangeShapes Go.WideShapes Go.ChangeAt Go.RowKit
set_option linter.unusedVariables false

theorem open_strC {H : Type} {enc : TypeId × Value → H} {W : World} (n : Nat) (cs : List Value) (x : DataW H × List MemPlace) (hl : cs.length = 1) (h : DataW.trod enc Tryd.prog W 0 (fun _ => true) true n 9 cs = some x) :
    ∃ d : ByteArray, cs = stringL d ∧ d.size ≤ maxLen := by
  obtain ⟨s, e0, _, h0⟩ := DataW.trod_string Tryd.underlying9 h
  exact ⟨s, e0, h0⟩
set_option maxRecDepth 100000 in
theorem open_strs {H : Type} {enc : TypeId × Value → H} {W : World} {base : Nat} {v : Value} {d : DataW H} {ps : List MemPlace} (hval : Value.okWide Tryd.prog W .any base 25 v) (h : DataW.Trod enc Tryd.prog W 0 (fun _ => true) true 25 v d ps) :
    ∃ l : List ByteArray, SlR W v stringL 1 l ∧ (∀ i, i < l.length → (l.getD i default).size ≤ maxLen) ∧ l.length ≤ maxLen := by
  obtain ⟨a0, len, cap, rfl⟩ := okWide_slice Tryd.underlying25 hval
  obtain ⟨fuel, hf⟩ := h
  obtain ⟨v', l, e1, hL, q1, q2⟩ := open_recs stringL 1 (by decide) stringL_len (fun d => d.size ≤ maxLen) Tryd.underlying25 cells_strR open_strC hf
  have e2 : Value.slice a0 len cap = v' := by simpa [Value.cells] using e1
  rw [e2]
  exact ⟨l, hL, q1, q2⟩

set_option maxHeartbeats 2000000 in
set_option maxRecDepth 100000 in
theorem walk (rs ms : List ByteArray) (v0 v1 : Value) (w : World) (hv0 : SlR w v0 stringL 1 rs) (hv1 : SlR w v1 stringL 1 ms) (s0 : ∀ i, i < rs.length → (rs.getD i default).size ≤ maxLen) (s1 : ∀ i, i < ms.length → (ms.getD i default).size ≤ maxLen) (n0 : rs.length ≤ maxLen) (n1 : ms.length ≤ maxLen) (hT : Tab w.heap.size w) :
    Calls Tryd.prog 4 #[v0, v1] w fun e w' => e = .returned (.bool true) ∧ Below w.heap.size w w' := by
  have HV0 := hideT' hv0
  have HV1 := hideT' hv1
  have HT := hideT' hT
  have HS := hideT' (And.intro s0 s1)
  have HN1 := hideT' n1
  have HZ := hideT' (szStringS_any rs v0 1048576 w hv0 s0 (by omega) (by omega) n0)
  clear hv0 hv1 hT s0 s1 n0 n1
  go_enter Tryd.func4, Tryd.ntmps4
  go_wp2_with fail
  refine HZ.out.mono ?_
  rintro e w1 ⟨⟨r, rfl, hr⟩, hw'⟩
  rw [hw']
  clear hw'
  rcases hr with rfl | ⟨hr0, hr1, hlen0, _⟩
  · go_wp2
    go_ret
    exact ⟨rfl, Below.refl _ _⟩
  have hr3 : ¬ r < 0 := by omega
  have HZ1 := hideT' (szStringS_any ms v1 r w HV1.out HS.out.2 hr0 hr1 HN1.out)
  go_wp2_with fail
  refine HZ1.out.mono ?_
  rintro e w1 ⟨⟨r', rfl, hr'⟩, hw'⟩
  rw [hw']
  clear hw'
  rcases hr' with rfl | ⟨hr0', hr1', hlen1, _⟩
  · go_wp2
    go_ret
    exact ⟨rfl, Below.refl _ _⟩
  have hr3' : ¬ r' < 0 := by omega
  have hl0 : rs.length ≤ 1048576 := by omega
  have hl1 : ms.length ≤ 1048576 := by omega
  go_wp2_with fail
  refine (toStringS_any rs v0 w HV0.out hl0).mono ?_
  rintro e w2 ⟨⟨b, rfl, hb, hD2⟩, hB2⟩
  have hbl := hD2.lt
  have HD2 := hideT' hD2
  have hs2 := hB2.size
  clear hD2
  go_wp2_with fail
  refine (toStringS_any ms v1 w2 (HV1.out.below hB2) hl1).mono ?_
  rintro e w3 ⟨⟨c, rfl, hc, hD3⟩, hW3⟩
  have hB3 := hB2.trans (hW3.mono hs2)
  have HC := hideT' (specCh_any rs ms b c w3 hl0 hl1 HS.out.1 HS.out.2 (HD2.out.below hW3 hbl) hD3)
  have hs3 := hB3.size
  clear hD3 hW3
  go_wp2_with fail
  refine HC.out.mono ?_
  rintro e w4 ⟨hA, hW4⟩
  have hA' := hA
  have HA := hideT' hA
  obtain ⟨s, t, o, rfl, _⟩ := hA.same hA'
  have hB4 := hB3.trans (hW4.mono hs3)
  have hs4 := hB4.size
  clear hA hA' hW4
  go_wp2_with fail
  refine (toStringS_any rs v0 w4 (HV0.out.below hB4) hl0).mono ?_
  rintro e w5 ⟨⟨d, rfl, hd, hD5⟩, hW5⟩
  have hB5 := hB4.trans (hW5.mono hs4)
  have hs5 := hB5.size
  have hdl := hD5.lt
  have HD5 := hideT' hD5
  clear hD5 hW5
  go_wp2_with fail
  refine (toStringS_any ms v1 w5 (HV1.out.below hB5) hl1).mono ?_
  rintro e w6 ⟨⟨f, rfl, hf, hD6⟩, hW6⟩
  have hB6 := hB5.trans (hW6.mono hs5)
  have hs6 := hB6.size
  have hfl := hD6.lt
  have hd6 := HD5.out.below hW6 hdl
  have HD6 := hideT' (And.intro hd6 hD6)
  have HC2 := hideT' (implCh_any rs ms d f w6 hl0 hl1 HS.out.1 HS.out.2 hd6 hD6 ((HT.out.on hB6).up hs6))
  have hdl6 := hd6.lt
  clear hD6 hd6 hW6
  go_wp2_with fail
  refine HC2.out.mono ?_
  rintro e w7 ⟨hA2, hW7⟩
  obtain ⟨s2, t2, o2, he1, he2⟩ := HA.out.same hA2
  obtain ⟨rfl, rfl, rfl⟩ : s = s2 ∧ t = t2 ∧ o = o2 := by
    simp only [Ending.returned.injEq, Value.tuple.injEq, Array.mk.injEq, List.cons.injEq, Value.string.injEq, Value.bool.injEq, and_true] at he1
    exact he1
  subst he2
  have hB7 := hB6.trans (hW7.mono hs6)
  have hs7 := hB7.size
  have HD7 := hideT' (And.intro (HD6.out.1.below hW7 hdl6) (HD6.out.2.below hW7 hfl))
  have hoo : (o != o) = false := by cases o <;> rfl
  clear hA2 he1 hW7
  go_wp2_with fail
  refine (toStringS_any rs v0 w7 (HV0.out.below hB7) hl0).mono ?_
  rintro e w8 ⟨⟨g, rfl, hg, hD8⟩, hW8⟩
  have hB8 := hB7.trans (hW8.mono hs7)
  have hs8 := hB8.size
  have h1 := HD7.out.1.lt
  have h2 := HD7.out.2.lt
  have HD8 := hideT' (And.intro (HD7.out.1.below hW8 h1) (HD7.out.2.below hW8 h2))
  have HE := hideT' (eqStringS_any d g rs w8 hl0 (HD7.out.1.below hW8 h1) hD8)
  have h3 := HD8.out.2.lt
  clear hD8 hW8
  go_wp2_with fail
  refine HE.out.mono ?_
  rintro e w9 ⟨rfl, hW9⟩
  have hB9 := hB8.trans (hW9.mono hs8)
  have hs9 := hB9.size
  have HD9 := hideT' (HD8.out.2.below hW9 h3)
  have h4 := HD9.out.lt
  clear hW9
  go_wp2_with fail
  refine (toStringS_any ms v1 w9 (HV1.out.below hB9) hl1).mono ?_
  rintro e wa ⟨⟨h, rfl, hh, hDa⟩, hWa⟩
  have hBa := hB9.trans (hWa.mono hs9)
  have HE2 := hideT' (eqStringS_any f h ms wa hl1 (HD9.out.below hWa h4) hDa)
  have hsa := hBa.size
  clear hDa hWa
  go_wp2_with fail
  refine HE2.out.mono ?_
  rintro e wb ⟨rfl, hWb⟩
  have hBb := hBa.trans (hWb.mono hsa)
  go_wp2
  go_ret
  exact ⟨rfl, hBb⟩

set_option maxRecDepth 100000 in
/-- What the walk gives, for all arguments and every world that holds the tables. -/
theorem contract (H : Type) (enc : TypeId × Value → H) (W : World) (base : Nat) (args : Array Value) (ds gs : List (DataW H)) (before : List MemPlace)
    (hval : ∀ (j : Nat) t v, Tryd.f4.params[j]? = some t → args[j]? = some v → Value.okWide Tryd.prog W .any base t v)
    (hW : DataW.Whole enc Tryd.prog Tryd.f4.params.toList Rows.fnExactChineseNatSpec.vars false W args.toList ds gs before) (hL : laidMetH Tryd.prog Rows.fnExactChineseNatRow.laid W) :
    Calls Tryd.prog 4 args W fun e W' => ∃ v, e = .returned v ∧ Rows.fnExactChineseNatSpec.post enc Tryd.prog Tryd.f4 false true false false W args v W' := by
  have hW' := hW
  obtain ⟨p, q, hA0, hV, rfl, hfz, hnd⟩ := hW
  have hA : DataW.TrodAll enc Tryd.prog W 0 (fun _ => true) true Tryd.f4.params.toList args.toList ds p := hA0
  rw [Tryd.params4] at hA hval
  obtain ⟨v0, vs0, d0, ds0, p0, q0, hargs, rfl, rfl, h0, r0⟩ := trodAll_cons hA
  obtain ⟨v1, vs1, d1, ds1, p1, q1, rfl, rfl, rfl, h1, r1⟩ := trodAll_cons r0
  obtain ⟨rfl, rfl, rfl⟩ := trodAll_nil r1
  obtain rfl : args = #[v0, v1] := by cases args; simp_all
  obtain ⟨rfl, rfl⟩ := trodVars_none hV
  obtain ⟨l0, g0, s0, n0⟩ := open_strs (hval 0 25 v0 rfl rfl) h0
  obtain ⟨l1, g1, s1, n1⟩ := open_strs (hval 1 25 v1 rfl rfl) h1
  clear hA0
  simp only [List.append_nil] at hW'
  have lt0 : ∀ x ∈ p0, x.block < W.heap.size := fun x hx => hW'.lt x (by simp [hx])
  have lt1 : ∀ x ∈ p1, x.block < W.heap.size := fun x hx => hW'.lt x (by simp [hx])
  refine (walk l0 l1 v0 v1 W g0 g1 s0 s1 n0 n1 (tab_of hL)).mono fun e W' ⟨he, bel⟩ => ?_
  subst he
  exact ⟨_, rfl, _, _, _, [], _, [], hW', (trodAll_cons_mk (shut_bool Tryd.underlying4 _) trodAll_mk0), (trodAll_cons_mk (Below.trod laidOutR (by kernel_rfl) (of_decide_eq_true (by kernel_rfl)) h0 bel lt0) (trodAll_cons_mk (Below.trod laidOutR (by kernel_rfl) (of_decide_eq_true (by kernel_rfl)) h1 bel lt1) trodAll_mk0)), rfl, bel.frame _, fun h => by cases h⟩

theorem laid_met (os : Os) : laidMet Tryd.prog Rows.fnExactChineseNatRow.laid ((World.doorLaid Tryd.prog 65 os).forCall (fun _ _ => 0) ⟨#[], #[.slice none 0 0, .slice none 0 0], []⟩).memory :=
  laidMet_of_run' 24 (by kernel_rfl) (by kernel_rfl)
theorem reads (os : Os) {H : Type} (enc : TypeId × Value → H) : ∃ places, DataW.whole enc Tryd.prog ((World.doorLaid Tryd.prog 65 os).forCall (fun _ _ => 0) ⟨#[], #[.slice none 0 0, .slice none 0 0], []⟩).memory Tryd.f4.params.toList Rows.fnExactChineseNatSpec.vars false #[Value.slice none 0 0, Value.slice none 0 0].toList 8 = some ([.nil, .nil], [], places) :=
  ⟨[], by kernel_rfl⟩

set_option maxRecDepth 100000 in
theorem lifted (os : Os) (started : os.Started) (H : Type) (enc : TypeId × Value → H) (F : Stop.Interp) :
    ReturnsInHanded {} Tryd.checked os 4 .any ((OpenSpec.ofChange Rows.fnExactChineseNatSpec).preRow enc Tryd.prog Tryd.f4 Rows.fnExactChineseNatRow.domain false Rows.fnExactChineseNatRow.laid) (((OpenSpec.ofChange Rows.fnExactChineseNatSpec).at F).post enc Tryd.prog Tryd.f4 false true false false) := by
  obtain ⟨places, hx⟩ := reads os enc
  refine returnsInHanded_of_row (C := Tryd.checked) (s := OpenSpec.ofChange Rows.fnExactChineseNatSpec) own started (by kernel_rfl) Tryd.func4
    (witness_row_at (enc := enc) (C := Tryd.checked) false (World.doorLaid Tryd.prog 65 os) #[.slice none 0 0, .slice none 0 0] rfl (by kernel_rfl) (by kernel_rfl) (by kernel_rfl)
      (OpenSpec.preRow_of_cond 8 hx (by kernel_rfl) (fun k hk => by cases hk) (by kernel_rfl) (laid_met os))) ?_
  intro W base args ds gs before hval hW _ _ _ hL _ _
  exact contract H enc W base args ds gs before hval hW hL

theorem said : Rows.FnExactChineseNatSaid :=
  OpenClaim.holds_of_cond 4 Tryd.f4 rfl rfl rfl rfl rfl rfl rfl ⟨rfl, rfl, rfl, rfl, rfl⟩ rfl rfl rfl rfl rfl (by kernel_rfl) Tryd.func4 (by kernel_rfl)
    (of_decide_eq_true (by kernel_rfl)) (by unfold Func.isWrapper; first | (rw [if_pos (by decide +kernel)]; kernel_rfl) | (rw [if_neg (by decide +kernel)]; exact ⟨rfl, rfl⟩))
    (fun os started H enc _ F => by rw [OpenClaim.pre_eq_preRow]; exact lifted os started H enc F)

theorem plain (f : FuncId) (fn : Func) (hf : Tryd.pinned.checked.prog.funcNamed ("loop.example/g00201/laws.FnExactChineseNat") = some f) (hfn : Tryd.pinned.checked.prog.funcs[f]? = some fn) :
    false = Tryd.pinned.checked.prog.looks [] ∧ ∀ (j : Nat) t, fn.params[j]? = some t → Tryd.pinned.checked.prog.wantsStandIn t = false := by
  obtain rfl : f = 4 := Option.some.inj ((show Tryd.prog.funcNamed ("loop.example/g00201/laws.FnExactChineseNat") = some 4 by kernel_rfl).symm.trans hf) |>.symm
  obtain rfl : fn = Tryd.f4 := (Option.some.inj (Tryd.func4.symm.trans hfn)).symm
  refine ⟨by kernel_rfl, fun j t ht => ?_⟩
  rw [Tryd.params4] at ht
  obtain rfl : t = 25 := by simpa using Array.mem_of_getElem? ht
  exact (show Tryd.prog.wantsStandIn 25 = false by kernel_rfl)

theorem card : Rows.FnExactChineseNatCardSaid :=
  Claim7.holds_tied_plain_at .later [] _ _ _ _ said (fun _ h => by cases h) (by kernel_rfl) (fun _ h => by cases h) fnExactChineseNat_row_tie rfl ⟨rfl, rfl⟩ (by kernel_rfl) rfl plain (by kernel_rfl)
end Go.Proofs.YthbnacikomimfaaDoor.fnExactChineseNat

namespace Go.Proofs.YthbnacikomimfaaDoor
theorem chineseNat_holds : Rows.FnExactChineseNatCardSaid := fnExactChineseNat.card
#print axioms chineseNat_holds
end Go.Proofs.YthbnacikomimfaaDoor
