/-
  Proved: the tied card of laws.FnExactReadReal: for all arguments that can be read it answers true (ReadReal answers as its model), and its arguments read behind the call as before.
  Condition, by the row: three tables and two errors of the library lie as the program's text lays them (the card ties them). The frame follows the guide's own.
-/
import Derived.Test.YtoiegaggekgmjaaDoorRows
import Derived.Test.YtoiegaggekgmjaaDoorCards
import Derived.Test.YtoiegaggekgmjaaDoorTie
import Derived.Test.YtoiegaggekgmjaaDoorLaidFac
import Derived.Test.YtoiegaggekgmjaaDoorSpecReadR
import Derived.Test.YtoiegaggekgmjaaDoorTailReadRealA
import Derived.Carry
import Derived.WalkKit
import Derived.ProofKit
import Derived.OpenShut
import Derived.ShutString
import Derived.ChangeOld
import Derived.Below
import Derived.Deep.DeepHandedRow
import Derived.SevenTiedAt
namespace Go.Proofs.YtoiegaggekgmjaaDoor.fnExactReadReal
open Go.ChangeShapes Go.WideShapes Go.ChangeAt Go.RowKit
open Go.ChangeMaps (open_string shut_string)
set_option linter.unusedVariables false

set_option maxHeartbeats 2000000 in
set_option maxRecDepth 100000 in
theorem walk (a0 : ByteArray) (w0 : a0.size ≤ maxLen) (w : World) (hT : Tab w.heap.size w) (hE : EV w) :
    Calls Tryd.prog 3 #[.string a0] w fun e w' => e = .returned (.bool true) ∧ Below w.heap.size w w' := by
  have hb := w0
  unfold maxLen at hb
  have hz := zero_real.1
  by_cases h : (1048576 : Int) < (a0.size : Int)
  · go_enter Tryd.func3, Tryd.ntmps3
    go_wp2
    go_ret
    exact ⟨rfl, Below.refl _ _⟩
  have HS := hideT' (specReadReal_any a0 w w0)
  have HI := hideT' (fun w' hB hs => implReadReal_any a0 w' (by omega) (Tab.up (Tab.on hT hB) hs) (hE.below hB))
  clear hT hE
  go_enter Tryd.func3, Tryd.ntmps3
  go_wp2_with fail
  refine HS.out.mono ?_
  rintro e w1 ⟨hA, hW1⟩
  have HA := hideT' hA
  obtain ⟨a, b, c, d, he, _⟩ := hA.same hA
  subst he
  clear hA HS
  have hRa : RowAt (w1.alloc (.cells #[.bool a, .int .i64 b, .int .i64 c] 23)) w1.heap.size 23 #[.bool a, .int .i64 b, .int .i64 c] := RowAt.new _ _ _
  have hBa : Below w.heap.size w (w1.alloc (.cells #[.bool a, .int .i64 b, .int .i64 c] 23)) := hW1.alloc hW1.size _
  have HE := hideT' (fun w' => eqReal_any a b c w')
  have hd : (d != d) = false := by cases d <;> rfl
  have hs0 := hW1.size
  clear hW1
  go_wp2_with fail
  refine (HI.out _ hBa hBa.size).mono ?_
  rintro e w2 ⟨hB, hW2⟩
  obtain ⟨a', b', c', d', he1, he2⟩ := HA.out.same hB
  subst he2
  have hR2 := RowAt.below hRa hW2 (by simp)
  have hs2 : w1.heap.size + 1 ≤ w2.heap.size := by have := hW2.size; simpa using this
  have hB2 : Below w.heap.size w w2 := hBa.trans (hW2.mono (by simp; omega))
  have hRn := RowAt.old hR2 (.cells #[.bool a, .int .i64 b, .int .i64 c] 23)
  have ka : (w2.alloc (.cells #[.bool a, .int .i64 b, .int .i64 c] 23)).cell? ⟨w1.heap.size, 0, none⟩ = some (.bool a) := by rw [cell_of_row _ _ _ _ _ _ hRn]; rfl
  have kb : (w2.alloc (.cells #[.bool a, .int .i64 b, .int .i64 c] 23)).cell? ⟨w1.heap.size, 1, none⟩ = some (.int .i64 b) := by rw [cell_of_row _ _ _ _ _ _ hRn]; rfl
  have kc : (w2.alloc (.cells #[.bool a, .int .i64 b, .int .i64 c] 23)).cell? ⟨w1.heap.size, 2, none⟩ = some (.int .i64 c) := by rw [cell_of_row _ _ _ _ _ _ hRn]; rfl
  have hBn : Below w.heap.size w (w2.alloc (.cells #[.bool a, .int .i64 b, .int .i64 c] 23)) := hB2.alloc hB2.size _
  clear he1 hB hRa hBa hW2 hR2 hRn HI HA
  go_wp2_with fail
  refine (HE.out _).mono ?_
  rintro _ w3 ⟨rfl, hW3⟩
  have hBz : Below w.heap.size w w3 := hBn.trans (hW3.mono (by simp; have := hB2.size; omega))
  clear ka kb kc hW3
  go_wp2
  go_ret
  exact ⟨rfl, hBz⟩

set_option maxRecDepth 100000 in
/-- What the walk gives, for all arguments and every world that holds the tables. -/
theorem contract (H : Type) (enc : TypeId × Value → H) (W : World) (base : Nat) (args : Array Value) (ds gs : List (DataW H)) (before : List MemPlace)
    (hval : ∀ (j : Nat) t v, Tryd.f3.params[j]? = some t → args[j]? = some v → Value.okWide Tryd.prog W .any base t v)
    (hW : DataW.Whole enc Tryd.prog Tryd.f3.params.toList Rows.fnExactReadRealSpec.vars false W args.toList ds gs before) (hL : laidMetH Tryd.prog Rows.fnExactReadRealRow.laid W) :
    Calls Tryd.prog 3 args W fun e W' => ∃ v, e = .returned v ∧ Rows.fnExactReadRealSpec.post enc Tryd.prog Tryd.f3 false true false false W args v W' := by
  have hW' := hW
  obtain ⟨p, q, hA0, hV, rfl, hfz, hnd⟩ := hW
  have hA : DataW.TrodAll enc Tryd.prog W 0 (fun _ => true) true Tryd.f3.params.toList args.toList ds p := hA0
  rw [Tryd.params3] at hA hval
  obtain ⟨v0, vs0, d0, ds0, p0, q0, hargs, rfl, rfl, h0, r0⟩ := trodAll_cons hA
  obtain ⟨rfl, rfl, rfl⟩ := trodAll_nil r0
  obtain rfl : args = #[v0] := by cases args; simp_all
  obtain ⟨rfl, rfl⟩ := trodVars_none hV
  obtain ⟨a0, rfl, rfl, rfl, w0⟩ := open_string Tryd.underlying9 (hval 0 9 v0 rfl rfl) h0
  clear hA0
  simp only [List.append_nil] at hW'
  refine (walk a0 w0 W (tab_ev hL).1 (tab_ev hL).2).mono fun e W' ⟨he, bel⟩ => ?_
  subst he
  exact ⟨_, rfl, _, _, _, [], [], [], hW', (trodAll_cons_mk (shut_bool Tryd.underlying4 _) trodAll_mk0), (trodAll_cons_mk (shut_string Tryd.underlying9 w0) trodAll_mk0), rfl, bel.frame _, fun h => by cases h⟩

theorem laid_met (os : Os) : laidMet Tryd.prog Rows.fnExactReadRealRow.laid ((World.doorLaid Tryd.prog 65 os).forCall (fun _ _ => 0) ⟨#[], #[.string ByteArray.empty], []⟩).memory :=
  laidMet_of_run' 24 (by kernel_rfl) (by kernel_rfl)
theorem reads (os : Os) {H : Type} (enc : TypeId × Value → H) : ∃ places, DataW.whole enc Tryd.prog ((World.doorLaid Tryd.prog 65 os).forCall (fun _ _ => 0) ⟨#[], #[.string ByteArray.empty], []⟩).memory Tryd.f3.params.toList Rows.fnExactReadRealSpec.vars false #[Value.string ByteArray.empty].toList 8 = some ([.lit (.string [])], [], places) :=
  ⟨[], by kernel_rfl⟩

set_option maxRecDepth 100000 in
theorem lifted (os : Os) (started : os.Started) (H : Type) (enc : TypeId × Value → H) (F : Stop.Interp) :
    ReturnsInHanded {} Tryd.checked os 3 .any ((OpenSpec.ofChange Rows.fnExactReadRealSpec).preRow enc Tryd.prog Tryd.f3 Rows.fnExactReadRealRow.domain false Rows.fnExactReadRealRow.laid) (((OpenSpec.ofChange Rows.fnExactReadRealSpec).at F).post enc Tryd.prog Tryd.f3 false true false false) := by
  obtain ⟨places, hx⟩ := reads os enc
  refine returnsInHanded_of_row (C := Tryd.checked) (s := OpenSpec.ofChange Rows.fnExactReadRealSpec) own started (by kernel_rfl) Tryd.func3
    (witness_row_at (enc := enc) (C := Tryd.checked) false (World.doorLaid Tryd.prog 65 os) #[.string ByteArray.empty] rfl (by kernel_rfl) (by kernel_rfl) (by kernel_rfl)
      (OpenSpec.preRow_of_cond 8 hx (by kernel_rfl) (fun k hk => by cases hk) (by kernel_rfl) (laid_met os))) ?_
  intro W base args ds gs before hval hW _ _ _ hL _ _
  exact contract H enc W base args ds gs before hval hW hL

theorem said : Rows.FnExactReadRealSaid :=
  OpenClaim.holds_of_cond 3 Tryd.f3 rfl rfl rfl rfl rfl rfl rfl ⟨rfl, rfl, rfl, rfl, rfl⟩ rfl rfl rfl rfl rfl (by kernel_rfl) Tryd.func3 (by kernel_rfl)
    (of_decide_eq_true (by kernel_rfl)) (by unfold Func.isWrapper; first | (rw [if_pos (by decide +kernel)]; kernel_rfl) | (rw [if_neg (by decide +kernel)]; exact ⟨rfl, rfl⟩))
    (fun os started H enc _ F => by rw [OpenClaim.pre_eq_preRow]; exact lifted os started H enc F)

theorem plain (f : FuncId) (fn : Func) (hf : Tryd.pinned.checked.prog.funcNamed ("loop.example/g00201/laws.FnExactReadReal") = some f) (hfn : Tryd.pinned.checked.prog.funcs[f]? = some fn) :
    true = Tryd.pinned.checked.prog.looks [] ∧ ∀ (j : Nat) t, fn.params[j]? = some t → Tryd.pinned.checked.prog.wantsStandIn t = false := by
  obtain rfl : f = 3 := Option.some.inj ((show Tryd.prog.funcNamed ("loop.example/g00201/laws.FnExactReadReal") = some 3 by kernel_rfl).symm.trans hf) |>.symm
  obtain rfl : fn = Tryd.f3 := (Option.some.inj (Tryd.func3.symm.trans hfn)).symm
  refine ⟨by kernel_rfl, fun j t ht => ?_⟩
  rw [Tryd.params3] at ht
  obtain rfl : t = 9 := by simpa using Array.mem_of_getElem? ht
  exact (show Tryd.prog.wantsStandIn 9 = false by kernel_rfl)

theorem card : Rows.FnExactReadRealCardSaid :=
  Claim7.holds_tied_plain_at .later [] _ _ _ _ said (fun _ h => by cases h) (by kernel_rfl) (fun _ h => by cases h) fnExactReadReal_row_tie rfl ⟨rfl, rfl⟩ (by kernel_rfl) rfl plain (by kernel_rfl)
end Go.Proofs.YtoiegaggekgmjaaDoor.fnExactReadReal

namespace Go.Proofs.YtoiegaggekgmjaaDoor
theorem readReal_holds : Rows.FnExactReadRealCardSaid := fnExactReadReal.card
#print axioms readReal_holds
end Go.Proofs.YtoiegaggekgmjaaDoor
