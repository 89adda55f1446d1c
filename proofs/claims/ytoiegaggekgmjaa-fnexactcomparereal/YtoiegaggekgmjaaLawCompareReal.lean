/-
  Proved: for all arguments that can be read, laws.FnExactCompareReal answers true (CompareReal answers as its model), and its arguments read behind the call as before.
  No condition but the row's own. The frame is the one that the guide's program wrote.
-/
import Derived.Test.YtoiegaggekgmjaaRows
import Derived.Test.YtoiegaggekgmjaaTailCompareRealA
import Derived.WalkKit
import Derived.ProofKit
import Derived.OpenShut
import Derived.ShutString
import Derived.ChangeOld
import Derived.Below
import Derived.Carry
namespace Go.Proofs.Ytoiegaggekgmjaa.fnExactCompareReal
open Go.ChangeShapes Go.WideShapes Go.ChangeAt Go.RowKit
open Go.ChangeMaps (open_string shut_string)
set_option linter.unusedVariables false

theorem own : ownKnob Try.prog.godebug = none := by kernel_rfl

set_option maxHeartbeats 8000000 in
set_option maxRecDepth 100000 in
theorem walk (g0 : Bool) (m0 e0 : Int) (g1 : Bool) (m1 e1 : Int) (w : World) :
    Calls Try.prog 5 #[.agg #[.bool g0, .int .i64 m0, .int .i64 e0], .agg #[.bool g1, .int .i64 m1, .int .i64 e1]] w fun e' w' => e' = .returned (.bool true) ∧ Below w.heap.size w w' := by
  have A : RowAt ((w.alloc (.cells #[.bool g0, .int .i64 m0, .int .i64 e0] 23)).alloc (.cells #[.bool g1, .int .i64 m1, .int .i64 e1] 23)) w.heap.size 23 #[.bool g0, .int .i64 m0, .int .i64 e0] := RowAt.old (RowAt.new w 23 #[.bool g0, .int .i64 m0, .int .i64 e0]) _
  have B : RowAt ((w.alloc (.cells #[.bool g0, .int .i64 m0, .int .i64 e0] 23)).alloc (.cells #[.bool g1, .int .i64 m1, .int .i64 e1] 23)) (w.heap.size + 1) 23 #[.bool g1, .int .i64 m1, .int .i64 e1] := by
    have h := RowAt.new (w.alloc (.cells #[.bool g0, .int .i64 m0, .int .i64 e0] 23)) 23 #[.bool g1, .int .i64 m1, .int .i64 e1]
    rw [World.size_alloc] at h
    exact h
  have hB : Below w.heap.size w ((w.alloc (.cells #[.bool g0, .int .i64 m0, .int .i64 e0] 23)).alloc (.cells #[.bool g1, .int .i64 m1, .int .i64 e1] 23)) := ((Below.refl _ _).alloc (Nat.le_refl _) _).alloc (by simp) _
  have hws : ((w.alloc (.cells #[.bool g0, .int .i64 m0, .int .i64 e0] 23)).alloc (.cells #[.bool g1, .int .i64 m1, .int .i64 e1] 23)).heap.size = w.heap.size + 1 + 1 := by simp
  go_enter Try.func5, Try.ntmps5
  generalize hw0 : (w.alloc (.cells #[.bool g0, .int .i64 m0, .int .i64 e0] 23)).alloc (.cells #[.bool g1, .int .i64 m1, .int .i64 e1] 23) = w0 at A B hB hws
  go_wp2_with fail
  clear hw0
  refine held_begin (fun w' => RowAt w' w.heap.size 23 #[.bool g0, .int .i64 m0, .int .i64 e0] ∧ RowAt w' (w.heap.size + 1) 23 #[.bool g1, .int .i64 m1, .int .i64 e1]) (by kernel_rfl) ?_
  have hSP : RowAt w0.drew w.heap.size 23 #[.bool g0, .int .i64 m0, .int .i64 e0] ∧ RowAt w0.drew (w.heap.size + 1) 23 #[.bool g1, .int .i64 m1, .int .i64 e1] := ⟨A, B⟩
  refine held_valS 0 (some 10) rfl rfl (by kernel_rfl) (by kernel_rfl) (by kernel_rfl) noPanic_put rfl (.agg #[.bool g0, .int .i64 m0, .int .i64 e0]) (fun _ h => run_loadLR _ rfl w.heap.size rfl g0 m0 e0 h.1) hSP ?_
  simp only [Act.put, List.setIfInBounds_toArray, List.set_cons_zero, List.set_cons_succ]
  refine held_valS 2 (some 12) rfl rfl (by kernel_rfl) (by kernel_rfl) (by kernel_rfl) noPanic_put rfl (.agg #[.bool g1, .int .i64 m1, .int .i64 e1]) (fun _ h => run_loadLR _ rfl (w.heap.size + 1) rfl g1 m1 e1 h.2) hSP ?_
  simp only [Act.put, List.setIfInBounds_toArray, List.set_cons_zero, List.set_cons_succ]
  refine held_call 1 (some 11) (by kernel_rfl) rfl rfl rfl 12 #[.agg #[.bool g0, .int .i64 m0, .int .i64 e0]] (by go_simp) _ (toReal_any g0 m0 e0 w0.drew) ?_
  rintro ea waP ⟨rfl, hWaP⟩
  have hsaP : w0.heap.size ≤ waP.heap.size := hWaP.size
  have hSaP : RowAt waP w.heap.size 23 #[.bool g0, .int .i64 m0, .int .i64 e0] ∧ RowAt waP (w.heap.size + 1) 23 #[.bool g1, .int .i64 m1, .int .i64 e1] := ⟨RowAt.below hSP.1 hWaP (by show _ < w0.heap.size; omega), RowAt.below hSP.2 hWaP (by show _ < w0.heap.size; omega)⟩
  refine ⟨_, rfl, hSaP, ?_⟩
  simp only [Act.put, List.setIfInBounds_toArray, List.set_cons_zero, List.set_cons_succ]
  refine held_call 3 (some 13) (by kernel_rfl) rfl rfl rfl 12 #[.agg #[.bool g1, .int .i64 m1, .int .i64 e1]] (by go_simp) _ (toReal_any g1 m1 e1 waP) ?_
  rintro eb wbP ⟨rfl, hWbP⟩
  have hsbP := hWbP.size
  have hSbP : RowAt wbP w.heap.size 23 #[.bool g0, .int .i64 m0, .int .i64 e0] ∧ RowAt wbP (w.heap.size + 1) 23 #[.bool g1, .int .i64 m1, .int .i64 e1] := ⟨RowAt.below hSaP.1 hWbP (by omega), RowAt.below hSaP.2 hWbP (by omega)⟩
  refine ⟨_, rfl, hSbP, ?_⟩
  simp only [Act.put, List.setIfInBounds_toArray, List.set_cons_zero, List.set_cons_succ]
  refine held_call 4 (some 14) (by kernel_rfl) rfl rfl rfl 17 #[.agg #[.bool g0, .int .i64 m0, .int .i64 e0], .agg #[.bool g1, .int .i64 m1, .int .i64 e1]] (by go_simp) _ (specCmpReal_any g0 m0 e0 g1 m1 e1 wbP) ?_
  rintro ec wcP ⟨hAP, hWcP⟩
  have HA := hideT' hAP
  obtain ⟨c, d, he, _⟩ := hAP.same hAP
  subst he
  clear hAP
  have hscP := hWcP.size
  have hScP : RowAt wcP w.heap.size 23 #[.bool g0, .int .i64 m0, .int .i64 e0] ∧ RowAt wcP (w.heap.size + 1) 23 #[.bool g1, .int .i64 m1, .int .i64 e1] := ⟨RowAt.below hSbP.1 hWcP (by omega), RowAt.below hSbP.2 hWcP (by omega)⟩
  refine ⟨_, rfl, hScP, ?_⟩
  simp only [Act.put, List.setIfInBounds_toArray, List.set_cons_zero, List.set_cons_succ]
  refine held_val 5 (some 9) rfl rfl (by kernel_rfl) (by kernel_rfl) (by kernel_rfl) noPanic_put rfl (.tuple #[.int .i64 c, .bool d]) (fun _ => by go_simp) hScP ?_
  simp only [Act.put, List.setIfInBounds_toArray, List.set_cons_zero, List.set_cons_succ]
  refine held_val 6 (some 15) rfl rfl (by kernel_rfl) (by kernel_rfl) (by kernel_rfl) noPanic_put rfl (.int .i64 c) (fun _ => by go_simp) hScP ?_
  simp only [Act.put, List.setIfInBounds_toArray, List.set_cons_zero, List.set_cons_succ]
  refine held_val 7 (some 16) rfl rfl (by kernel_rfl) (by kernel_rfl) (by kernel_rfl) noPanic_put rfl (.bool d) (fun _ => by go_simp) hScP ?_
  simp only [Act.put, List.setIfInBounds_toArray, List.set_cons_zero, List.set_cons_succ]
  refine held_assign 8 (some 5) (by kernel_rfl) rfl rfl _ rfl rfl (.int .i64 c) rfl hScP ?_
  simp only [Act.put, List.setIfInBounds_toArray, List.set_cons_zero, List.set_cons_succ]
  refine held_assign 9 (some 6) (by kernel_rfl) rfl rfl _ rfl rfl (.bool d) rfl hScP ?_
  simp only [Act.put, List.setIfInBounds_toArray, List.set_cons_zero, List.set_cons_succ]
  refine wpAnyH_done (by kernel_rfl) ?_ _
  refine NoPanic.normal ?_
  have hBP : Below w.heap.size w wcP := ((hB.drew.trans (hWaP.mono (by show _ ≤ w0.heap.size; omega))).trans (hWbP.mono (by omega))).trans (hWcP.mono (by omega))
  have hsP : w.heap.size + 1 + 1 ≤ wcP.heap.size := by omega
  clear hSP hSaP hSbP hWaP hWbP hWcP A B hB hws hsaP hsbP hscP
  go_wp2_with fail
  refine held_begin (fun w' => RowAt w' w.heap.size 23 #[.bool g0, .int .i64 m0, .int .i64 e0] ∧ RowAt w' (w.heap.size + 1) 23 #[.bool g1, .int .i64 m1, .int .i64 e1]) (by kernel_rfl) ?_
  have hSR : RowAt wcP.drew w.heap.size 23 #[.bool g0, .int .i64 m0, .int .i64 e0] ∧ RowAt wcP.drew (w.heap.size + 1) 23 #[.bool g1, .int .i64 m1, .int .i64 e1] := hScP
  refine held_valS 0 (some 18) rfl rfl (by kernel_rfl) (by kernel_rfl) (by kernel_rfl) noPanic_put rfl (.agg #[.bool g0, .int .i64 m0, .int .i64 e0]) (fun _ h => run_loadLR _ rfl w.heap.size rfl g0 m0 e0 h.1) hSR ?_
  simp only [Act.put, List.setIfInBounds_toArray, List.set_cons_zero, List.set_cons_succ]
  refine held_valS 2 (some 20) rfl rfl (by kernel_rfl) (by kernel_rfl) (by kernel_rfl) noPanic_put rfl (.agg #[.bool g1, .int .i64 m1, .int .i64 e1]) (fun _ h => run_loadLR _ rfl (w.heap.size + 1) rfl g1 m1 e1 h.2) hSR ?_
  simp only [Act.put, List.setIfInBounds_toArray, List.set_cons_zero, List.set_cons_succ]
  refine held_call 1 (some 19) (by kernel_rfl) rfl rfl rfl 12 #[.agg #[.bool g0, .int .i64 m0, .int .i64 e0]] (by go_simp) _ (toReal_any g0 m0 e0 wcP.drew) ?_
  rintro ea waR ⟨rfl, hWaR⟩
  have hsaR : wcP.heap.size ≤ waR.heap.size := hWaR.size
  have hSaR : RowAt waR w.heap.size 23 #[.bool g0, .int .i64 m0, .int .i64 e0] ∧ RowAt waR (w.heap.size + 1) 23 #[.bool g1, .int .i64 m1, .int .i64 e1] := ⟨RowAt.below hSR.1 hWaR (by show _ < wcP.heap.size; omega), RowAt.below hSR.2 hWaR (by show _ < wcP.heap.size; omega)⟩
  refine ⟨_, rfl, hSaR, ?_⟩
  simp only [Act.put, List.setIfInBounds_toArray, List.set_cons_zero, List.set_cons_succ]
  refine held_call 3 (some 21) (by kernel_rfl) rfl rfl rfl 12 #[.agg #[.bool g1, .int .i64 m1, .int .i64 e1]] (by go_simp) _ (toReal_any g1 m1 e1 waR) ?_
  rintro eb wbR ⟨rfl, hWbR⟩
  have hsbR := hWbR.size
  have hSbR : RowAt wbR w.heap.size 23 #[.bool g0, .int .i64 m0, .int .i64 e0] ∧ RowAt wbR (w.heap.size + 1) 23 #[.bool g1, .int .i64 m1, .int .i64 e1] := ⟨RowAt.below hSaR.1 hWbR (by omega), RowAt.below hSaR.2 hWbR (by omega)⟩
  refine ⟨_, rfl, hSbR, ?_⟩
  simp only [Act.put, List.setIfInBounds_toArray, List.set_cons_zero, List.set_cons_succ]
  refine held_call 4 (some 22) (by kernel_rfl) rfl rfl rfl 18 #[.agg #[.bool g0, .int .i64 m0, .int .i64 e0], .agg #[.bool g1, .int .i64 m1, .int .i64 e1]] (by go_simp) _ (implCmpReal_any g0 m0 e0 g1 m1 e1 wbR) ?_
  rintro ec wcR ⟨hAR, hWcR⟩
  obtain ⟨_, _, he1, he2⟩ := HA.out.same hAR
  subst he2
  clear he1 hAR
  have hscR := hWcR.size
  have hScR : RowAt wcR w.heap.size 23 #[.bool g0, .int .i64 m0, .int .i64 e0] ∧ RowAt wcR (w.heap.size + 1) 23 #[.bool g1, .int .i64 m1, .int .i64 e1] := ⟨RowAt.below hSbR.1 hWcR (by omega), RowAt.below hSbR.2 hWcR (by omega)⟩
  refine ⟨_, rfl, hScR, ?_⟩
  simp only [Act.put, List.setIfInBounds_toArray, List.set_cons_zero, List.set_cons_succ]
  refine held_val 5 (some 17) rfl rfl (by kernel_rfl) (by kernel_rfl) (by kernel_rfl) noPanic_put rfl (.tuple #[.int .i64 c, .bool d]) (fun _ => by go_simp) hScR ?_
  simp only [Act.put, List.setIfInBounds_toArray, List.set_cons_zero, List.set_cons_succ]
  refine held_val 6 (some 23) rfl rfl (by kernel_rfl) (by kernel_rfl) (by kernel_rfl) noPanic_put rfl (.int .i64 c) (fun _ => by go_simp) hScR ?_
  simp only [Act.put, List.setIfInBounds_toArray, List.set_cons_zero, List.set_cons_succ]
  refine held_val 7 (some 24) rfl rfl (by kernel_rfl) (by kernel_rfl) (by kernel_rfl) noPanic_put rfl (.bool d) (fun _ => by go_simp) hScR ?_
  simp only [Act.put, List.setIfInBounds_toArray, List.set_cons_zero, List.set_cons_succ]
  refine held_assign 8 (some 7) (by kernel_rfl) rfl rfl _ rfl rfl (.int .i64 c) rfl hScR ?_
  simp only [Act.put, List.setIfInBounds_toArray, List.set_cons_zero, List.set_cons_succ]
  refine held_assign 9 (some 8) (by kernel_rfl) rfl rfl _ rfl rfl (.bool d) rfl hScR ?_
  simp only [Act.put, List.setIfInBounds_toArray, List.set_cons_zero, List.set_cons_succ]
  refine wpAnyH_done (by kernel_rfl) ?_ _
  refine NoPanic.normal ?_
  have hBR : Below w.heap.size w wcR := ((hBP.drew.trans (hWaR.mono (by show _ ≤ wcP.heap.size; omega))).trans (hWbR.mono (by omega))).trans (hWcR.mono (by omega))
  have hd : (d != d) = false := by cases d <;> rfl
  clear hSR hSaR hSbR hScR hWaR hWbR hWcR hBP HA
  go_wp2
  go_ret
  exact ⟨rfl, hBR⟩


set_option maxRecDepth 100000 in
theorem lifted (os : Os) (started : os.Started) (H : Type) (enc : TypeId × Value → H) :
    ReturnsInHanded {} Try.checked os 5 .any (Rows.fnExactCompareRealSpec.pre6 enc Try.prog Try.f5 Rows.fnExactCompareRealRow.domain false) (Rows.fnExactCompareRealSpec.post enc Try.prog Try.f5 false true false false) := by
  refine returnsInHanded_of_change (C := Try.checked) own started (by kernel_rfl) Try.func5
    (ChangeSpec.witness6 (enc := enc) (C := Try.checked) false ⟨#[], #[.agg #[.bool false, .int .i64 0, .int .i64 0], .agg #[.bool false, .int .i64 0, .int .i64 0]], []⟩ 8 (by kernel_rfl) (by kernel_rfl) (by kernel_rfl) (by kernel_rfl)) ?_
  intro W base args ds gs before hval0 hW hcnd _
  have hval : ∀ (j : Nat) t v, Try.f5.params[j]? = some t → args[j]? = some v → Value.okWide Try.prog W .any base t v := hval0
  have hW' := hW
  obtain ⟨p, q, hA0, hV, rfl, hfz, hnd⟩ := hW
  have hA : DataW.TrodAll enc Try.prog W 0 (fun _ => true) true Try.f5.params.toList args.toList ds p := hA0
  rw [Try.params5] at hA hval
  obtain ⟨v0, vs0, d0, ds0, p0, q0, hargs, rfl, rfl, h0, r0⟩ := trodAll_cons hA
  obtain ⟨v1, vs1, d1, ds1, p1, q1, rfl, rfl, rfl, h1, r1⟩ := trodAll_cons r0
  obtain ⟨rfl, rfl, rfl⟩ := trodAll_nil r1
  obtain rfl : args = #[v0, v1] := by cases args; simp_all
  obtain ⟨rfl, rfl⟩ := trodVars_none hV
  obtain ⟨g0, m0, e0, rfl⟩ := open_real (hval 0 23 v0 rfl rfl) h0
  obtain ⟨g1, m1, e1, rfl⟩ := open_real (hval 1 23 v1 rfl rfl) h1
  clear hA0 hval0
  simp only [List.append_nil] at hW'
  have lt0 : ∀ x ∈ p0, x.block < W.heap.size := fun x hx => hW'.lt x (by simp [hx])
  have lt1 : ∀ x ∈ p1, x.block < W.heap.size := fun x hx => hW'.lt x (by simp [hx])
  refine (walk g0 m0 e0 g1 m1 e1 W).mono fun e W' ⟨he, bel⟩ => ?_
  subst he
  exact ⟨_, rfl, _, _, _, [], _, [], hW', (trodAll_cons_mk (shut_bool Try.underlying4 _) trodAll_mk0), (trodAll_cons_mk (Below.trod laidOutR (by kernel_rfl) (of_decide_eq_true (by kernel_rfl)) h0 bel lt0) (trodAll_cons_mk (Below.trod laidOutR (by kernel_rfl) (of_decide_eq_true (by kernel_rfl)) h1 bel lt1) trodAll_mk0)), rfl, bel.frame _, fun h => by cases h⟩

theorem over : Rows.fnExactCompareRealRow.holds Try.pinned (OpenSpec.ofChange Rows.fnExactCompareRealSpec) :=
  OpenClaim.holds_of_wide 5 Try.f5 rfl rfl rfl rfl rfl rfl rfl ⟨rfl, rfl, rfl, rfl, rfl⟩ rfl rfl rfl rfl rfl (by kernel_rfl) Try.func5 (by kernel_rfl)
    (of_decide_eq_true (by kernel_rfl)) (by unfold Func.isWrapper; first | (rw [if_pos (by decide +kernel)]; kernel_rfl) | (rw [if_neg (by decide +kernel)]; exact ⟨rfl, rfl⟩))
    (fun os started H enc _ => lifted os started H enc)

end Go.Proofs.Ytoiegaggekgmjaa.fnExactCompareReal

namespace Go.Proofs.Ytoiegaggekgmjaa
theorem compareReal_holds : Rows.FnExactCompareRealSaid := fnExactCompareReal.over
#print axioms compareReal_holds
end Go.Proofs.Ytoiegaggekgmjaa
