/-
  Proved: for all arguments that can be read, laws.FnExactSubReal answers true (SubReal answers as its model), and its arguments read behind the call as before.
  No condition but the row's own. The frame is the one that the guide's program wrote.
-/
import Derived.Test.YtoiegaggekgmjaaRows
import Derived.Test.YtoiegaggekgmjaaSpecSumR
import Derived.Test.YtoiegaggekgmjaaRealLaw
import Derived.Test.YtoiegaggekgmjaaFloat
import Derived.WalkKit
import Derived.ProofKit
import Derived.OpenShut
import Derived.ShutString
import Derived.ChangeOld
import Derived.Below
import Derived.Carry
namespace Go.Proofs.Ytoiegaggekgmjaa.fnExactSubReal
open Go.ChangeShapes Go.WideShapes Go.ChangeAt Go.RowKit
open Go.ChangeMaps (open_string shut_string)
set_option linter.unusedVariables false

theorem own : ownKnob Try.prog.godebug = none := by kernel_rfl

set_option maxHeartbeats 8000000 in
set_option maxRecDepth 100000 in
theorem walk (g0 : Bool) (m0 e0 : Int) (g1 : Bool) (m1 e1 : Int) (w : World) :
    Calls Try.prog 8 #[.agg #[.bool g0, .int .i64 m0, .int .i64 e0], .agg #[.bool g1, .int .i64 m1, .int .i64 e1]] w fun e' w' => e' = .returned (.bool true) ∧ Below w.heap.size w w' := by
  have hz := zero_real.1
  have A : RowAt ((w.alloc (.cells #[.bool g0, .int .i64 m0, .int .i64 e0] 23)).alloc (.cells #[.bool g1, .int .i64 m1, .int .i64 e1] 23)) w.heap.size 23 #[.bool g0, .int .i64 m0, .int .i64 e0] := RowAt.old (RowAt.new w 23 #[.bool g0, .int .i64 m0, .int .i64 e0]) _
  have B : RowAt ((w.alloc (.cells #[.bool g0, .int .i64 m0, .int .i64 e0] 23)).alloc (.cells #[.bool g1, .int .i64 m1, .int .i64 e1] 23)) (w.heap.size + 1) 23 #[.bool g1, .int .i64 m1, .int .i64 e1] := by
    have h := RowAt.new (w.alloc (.cells #[.bool g0, .int .i64 m0, .int .i64 e0] 23)) 23 #[.bool g1, .int .i64 m1, .int .i64 e1]
    rw [World.size_alloc] at h
    exact h
  have hB : Below w.heap.size w ((w.alloc (.cells #[.bool g0, .int .i64 m0, .int .i64 e0] 23)).alloc (.cells #[.bool g1, .int .i64 m1, .int .i64 e1] 23)) := ((Below.refl _ _).alloc (Nat.le_refl _) _).alloc (by simp) _
  have hws : ((w.alloc (.cells #[.bool g0, .int .i64 m0, .int .i64 e0] 23)).alloc (.cells #[.bool g1, .int .i64 m1, .int .i64 e1] 23)).heap.size = w.heap.size + 1 + 1 := by simp
  go_enter Try.func8, Try.ntmps8
  generalize hw0 : (w.alloc (.cells #[.bool g0, .int .i64 m0, .int .i64 e0] 23)).alloc (.cells #[.bool g1, .int .i64 m1, .int .i64 e1] 23) = w0 at A B hB hws
  go_wp2_with fail
  clear hw0
  refine float_begin (fun w' => RowAt w' w.heap.size 23 #[.bool g0, .int .i64 m0, .int .i64 e0] ∧ RowAt w' (w.heap.size + 1) 23 #[.bool g1, .int .i64 m1, .int .i64 e1]) 8 5 25 #[.bool false, .int .i64 0, .int .i64 0] (w.heap.size + 1 + 1) 10 (by kernel_rfl) rfl ?_
  have hSP : RowAt w0.drew w.heap.size 23 #[.bool g0, .int .i64 m0, .int .i64 e0] ∧ RowAt w0.drew (w.heap.size + 1) 23 #[.bool g1, .int .i64 m1, .int .i64 e1] := ⟨A, B⟩
  have hS0 : RowAt w0 w.heap.size 23 #[.bool g0, .int .i64 m0, .int .i64 e0] ∧ RowAt w0 (w.heap.size + 1) 23 #[.bool g1, .int .i64 m1, .int .i64 e1] := ⟨A, B⟩
  refine float_val 0 10 rfl rfl (by kernel_rfl) (by kernel_rfl) (by kernel_rfl) (by kernel_rfl) (by kernel_rfl) noPanic_put (fun _ => rfl) (by decide) (by decide) (.agg #[.bool g0, .int .i64 m0, .int .i64 e0]) (fun _ h => run_loadLR _ rfl w.heap.size rfl g0 m0 e0 h.1) (fun _ _ h => run_loadLR _ rfl w.heap.size rfl g0 m0 e0 h.1) (fun _ h => ⟨RowAt.below hSP.1 h (by first | omega | (show _ < w0.heap.size; omega)), RowAt.below hSP.2 h (by first | omega | (show _ < w0.heap.size; omega))⟩) ?_
  simp only [Act.put, List.setIfInBounds_toArray, List.set_cons_zero, List.set_cons_succ]
  refine float_val 2 12 rfl rfl (by kernel_rfl) (by kernel_rfl) (by kernel_rfl) (by kernel_rfl) (by kernel_rfl) noPanic_put (fun _ => rfl) (by decide) (by decide) (.agg #[.bool g1, .int .i64 m1, .int .i64 e1]) (fun _ h => run_loadLR _ rfl (w.heap.size + 1) rfl g1 m1 e1 h.2) (fun _ _ h => run_loadLR _ rfl (w.heap.size + 1) rfl g1 m1 e1 h.2) (fun _ h => ⟨RowAt.below hSP.1 h (by first | omega | (show _ < w0.heap.size; omega)), RowAt.below hSP.2 h (by first | omega | (show _ < w0.heap.size; omega))⟩) ?_
  simp only [Act.put, List.setIfInBounds_toArray, List.set_cons_zero, List.set_cons_succ]
  refine float_call 1 11 rfl rfl rfl rfl rfl (fun _ => rfl) (fun _ => rfl) (by kernel_rfl) (by kernel_rfl) (by decide) (by decide) hz (by show _ ≤ w0.heap.size; omega) 12 #[.agg #[.bool g0, .int .i64 m0, .int .i64 e0]] (fun _ => by go_simp) (fun _ _ => by go_simp) (fun _ h => ⟨RowAt.below hSP.1 h (by first | omega | (show _ < w0.heap.size; omega)), RowAt.below hSP.2 h (by first | omega | (show _ < w0.heap.size; omega))⟩) _ (fun w' _ => toReal_any g0 m0 e0 w') ?_
  rintro wa ea wbP hWa ⟨rfl, hWb'⟩
  have hWb : Below w0.heap.size w0 wbP := (⟨hWa.os, hWa.tape, hWa.output, hWa.size, hWa.block⟩ : Below w0.heap.size w0 wa).trans (hWb'.mono hWa.size)
  have hsb := hWb.size
  have hSb : RowAt wbP w.heap.size 23 #[.bool g0, .int .i64 m0, .int .i64 e0] ∧ RowAt wbP (w.heap.size + 1) 23 #[.bool g1, .int .i64 m1, .int .i64 e1] := ⟨RowAt.below hS0.1 hWb (by first | omega | (show _ < w0.heap.size; omega)), RowAt.below hS0.2 hWb (by first | omega | (show _ < w0.heap.size; omega))⟩
  refine ⟨_, rfl, hWb', ?_⟩
  simp only [Act.put, List.setIfInBounds_toArray, List.set_cons_zero, List.set_cons_succ]
  refine float_call 3 13 rfl rfl rfl rfl rfl (fun _ => rfl) (fun _ => rfl) (by kernel_rfl) (by kernel_rfl) (by decide) (by decide) hz (by omega) 12 #[.agg #[.bool g1, .int .i64 m1, .int .i64 e1]] (fun _ => by go_simp) (fun _ _ => by go_simp) (fun _ h => ⟨RowAt.below hSb.1 h (by first | omega | (show _ < w0.heap.size; omega)), RowAt.below hSb.2 h (by first | omega | (show _ < w0.heap.size; omega))⟩) _ (fun w' _ => toReal_any g1 m1 e1 w') ?_
  rintro wc ec wdP hWc ⟨rfl, hWd'⟩
  have hWd : Below w0.heap.size w0 wdP := hWb.trans ((hWc.trans (hWd'.mono hWc.size)).mono hsb)
  have hsd := hWd.size
  have hSd : RowAt wdP w.heap.size 23 #[.bool g0, .int .i64 m0, .int .i64 e0] ∧ RowAt wdP (w.heap.size + 1) 23 #[.bool g1, .int .i64 m1, .int .i64 e1] := ⟨RowAt.below hS0.1 hWd (by first | omega | (show _ < w0.heap.size; omega)), RowAt.below hS0.2 hWd (by first | omega | (show _ < w0.heap.size; omega))⟩
  refine ⟨_, rfl, hWd', ?_⟩
  simp only [Act.put, List.setIfInBounds_toArray, List.set_cons_zero, List.set_cons_succ]
  refine float_call 4 14 rfl rfl rfl rfl rfl (fun _ => rfl) (fun _ => rfl) (by kernel_rfl) (by kernel_rfl) (by decide) (by decide) hz (by omega) 23 #[.agg #[.bool g0, .int .i64 m0, .int .i64 e0], .agg #[.bool g1, .int .i64 m1, .int .i64 e1]] (fun _ => by go_simp) (fun _ _ => by go_simp) (fun _ h => ⟨RowAt.below hSd.1 h (by first | omega | (show _ < w0.heap.size; omega)), RowAt.below hSd.2 h (by first | omega | (show _ < w0.heap.size; omega))⟩) _ (fun w' _ => specSubReal_any g0 m0 e0 g1 m1 e1 w') ?_
  rintro we ee wfP hWe ⟨hAP, hWf'⟩
  have HA := hideT' hAP
  obtain ⟨a, b, c, d, he, _⟩ := hAP.same hAP
  subst he
  clear hAP
  have hWf : Below w0.heap.size w0 wfP := hWd.trans ((hWe.trans (hWf'.mono hWe.size)).mono hsd)
  have hsf := hWf.size
  have hSf : RowAt wfP w.heap.size 23 #[.bool g0, .int .i64 m0, .int .i64 e0] ∧ RowAt wfP (w.heap.size + 1) 23 #[.bool g1, .int .i64 m1, .int .i64 e1] := ⟨RowAt.below hS0.1 hWf (by first | omega | (show _ < w0.heap.size; omega)), RowAt.below hS0.2 hWf (by first | omega | (show _ < w0.heap.size; omega))⟩
  refine ⟨_, rfl, hWf', ?_⟩
  simp only [Act.put, List.setIfInBounds_toArray, List.set_cons_zero, List.set_cons_succ]
  refine float_val 5 9 rfl rfl (by kernel_rfl) (by kernel_rfl) (by kernel_rfl) (by kernel_rfl) (by kernel_rfl) noPanic_put (fun _ => rfl) (by decide) (by decide) (.tuple #[.agg #[.bool a, .int .i64 b, .int .i64 c], .bool d]) (fun _ _ => by go_simp) (fun _ => fun _ _ => by go_simp) (fun _ h => ⟨RowAt.below hSf.1 h (by first | omega | (show _ < w0.heap.size; omega)), RowAt.below hSf.2 h (by first | omega | (show _ < w0.heap.size; omega))⟩) ?_
  simp only [Act.put, List.setIfInBounds_toArray, List.set_cons_zero, List.set_cons_succ]
  refine float_val 6 15 rfl rfl (by kernel_rfl) (by kernel_rfl) (by kernel_rfl) (by kernel_rfl) (by kernel_rfl) noPanic_put (fun _ => rfl) (by decide) (by decide) (.agg #[.bool a, .int .i64 b, .int .i64 c]) (fun _ _ => by go_simp) (fun _ => fun _ _ => by go_simp) (fun _ h => ⟨RowAt.below hSf.1 h (by first | omega | (show _ < w0.heap.size; omega)), RowAt.below hSf.2 h (by first | omega | (show _ < w0.heap.size; omega))⟩) ?_
  simp only [Act.put, List.setIfInBounds_toArray, List.set_cons_zero, List.set_cons_succ]
  refine float_val 7 16 rfl rfl (by kernel_rfl) (by kernel_rfl) (by kernel_rfl) (by kernel_rfl) (by kernel_rfl) noPanic_put (fun _ => rfl) (by decide) (by decide) (.bool d) (fun _ _ => by go_simp) (fun _ => fun _ _ => by go_simp) (fun _ h => ⟨RowAt.below hSf.1 h (by first | omega | (show _ < w0.heap.size; omega)), RowAt.below hSf.2 h (by first | omega | (show _ < w0.heap.size; omega))⟩) ?_
  simp only [Act.put, List.setIfInBounds_toArray, List.set_cons_zero, List.set_cons_succ]
  refine float_end rfl rfl rfl (fun _ => rfl) (by kernel_rfl) hz (by omega) (fun _ h => ⟨RowAt.below hSf.1 h (by first | omega | (show _ < w0.heap.size; omega)), RowAt.below hSf.2 h (by first | omega | (show _ < w0.heap.size; omega))⟩) ?_
  intro wg bP hWg hRp hbb
  simp only [Act.put, List.setIfInBounds_toArray, List.set_cons_zero, List.set_cons_succ]
  have hVg : Below w0.heap.size w0 wg := hWf.trans (hWg.mono hsf)
  have hSg : RowAt wg w.heap.size 23 #[.bool g0, .int .i64 m0, .int .i64 e0] ∧ RowAt wg (w.heap.size + 1) 23 #[.bool g1, .int .i64 m1, .int .i64 e1] := ⟨RowAt.below hS0.1 hVg (by first | omega | (show _ < w0.heap.size; omega)), RowAt.below hS0.2 hVg (by first | omega | (show _ < w0.heap.size; omega))⟩
  have hlt := RowAt.lt hRp
  refine held_store_real 9 (by kernel_rfl) rfl rfl _ _ rfl rfl bP a b c rfl rfl false 0 0 hRp ?_
  intro wP hNP hgh hsh
  have hShP : RowAt wP w.heap.size 23 #[.bool g0, .int .i64 m0, .int .i64 e0] ∧ RowAt wP (w.heap.size + 1) 23 #[.bool g1, .int .i64 m1, .int .i64 e1] := ⟨RowAt.grown hSg.1 hgh (by simp; omega), RowAt.grown hSg.2 hgh (by simp; omega)⟩
  refine ⟨hShP, ?_⟩
  refine held_assign 10 (some 6) (by kernel_rfl) rfl rfl _ rfl rfl (.bool d) rfl hShP ?_
  simp only [Act.put, List.setIfInBounds_toArray, List.set_cons_zero, List.set_cons_succ]
  refine wpAnyH_done (by kernel_rfl) ?_ _
  refine NoPanic.normal ?_
  have hBP : Below w.heap.size w wP := (hB.trans (hVg.mono (by omega))).grown hgh (by have := hVg.size; omega) (by intro k hk; cases hk; omega)
  have hsP : w.heap.size + 1 + 1 ≤ wP.heap.size := by have := hVg.size; omega
  have hbP : bP < wP.heap.size := by omega
  clear hS0 hSP hSb hSd hSf hSg hWa hWb hWb' hWc hWd hWd' hWe hWf hWf' hWg hVg hRp hgh hsh A B hB hws hsb hsd hsf hlt
  go_wp2_with fail
  refine float_begin (fun w' => RowAt w' w.heap.size 23 #[.bool g0, .int .i64 m0, .int .i64 e0] ∧ RowAt w' (w.heap.size + 1) 23 #[.bool g1, .int .i64 m1, .int .i64 e1] ∧ RowAt w' bP 25 #[.bool a, .int .i64 b, .int .i64 c]) 8 7 25 #[.bool false, .int .i64 0, .int .i64 0] (wP.heap.size) 10 (by kernel_rfl) rfl ?_
  have hSR : RowAt wP.drew w.heap.size 23 #[.bool g0, .int .i64 m0, .int .i64 e0] ∧ RowAt wP.drew (w.heap.size + 1) 23 #[.bool g1, .int .i64 m1, .int .i64 e1] ∧ RowAt wP.drew bP 25 #[.bool a, .int .i64 b, .int .i64 c] := ⟨hShP.1, hShP.2, hNP⟩
  have hS0 : RowAt wP w.heap.size 23 #[.bool g0, .int .i64 m0, .int .i64 e0] ∧ RowAt wP (w.heap.size + 1) 23 #[.bool g1, .int .i64 m1, .int .i64 e1] ∧ RowAt wP bP 25 #[.bool a, .int .i64 b, .int .i64 c] := ⟨hShP.1, hShP.2, hNP⟩
  refine float_val 0 18 rfl rfl (by kernel_rfl) (by kernel_rfl) (by kernel_rfl) (by kernel_rfl) (by kernel_rfl) noPanic_put (fun _ => rfl) (by decide) (by decide) (.agg #[.bool g0, .int .i64 m0, .int .i64 e0]) (fun _ h => run_loadLR _ rfl w.heap.size rfl g0 m0 e0 h.1) (fun _ _ h => run_loadLR _ rfl w.heap.size rfl g0 m0 e0 h.1) (fun _ h => ⟨RowAt.below hSR.1 h (by first | omega | (show _ < wP.heap.size; omega)), RowAt.below hSR.2.1 h (by first | omega | (show _ < wP.heap.size; omega)), RowAt.below hSR.2.2 h (by first | omega | (show _ < wP.heap.size; omega))⟩) ?_
  simp only [Act.put, List.setIfInBounds_toArray, List.set_cons_zero, List.set_cons_succ]
  refine float_val 2 20 rfl rfl (by kernel_rfl) (by kernel_rfl) (by kernel_rfl) (by kernel_rfl) (by kernel_rfl) noPanic_put (fun _ => rfl) (by decide) (by decide) (.agg #[.bool g1, .int .i64 m1, .int .i64 e1]) (fun _ h => run_loadLR _ rfl (w.heap.size + 1) rfl g1 m1 e1 h.2.1) (fun _ _ h => run_loadLR _ rfl (w.heap.size + 1) rfl g1 m1 e1 h.2.1) (fun _ h => ⟨RowAt.below hSR.1 h (by first | omega | (show _ < wP.heap.size; omega)), RowAt.below hSR.2.1 h (by first | omega | (show _ < wP.heap.size; omega)), RowAt.below hSR.2.2 h (by first | omega | (show _ < wP.heap.size; omega))⟩) ?_
  simp only [Act.put, List.setIfInBounds_toArray, List.set_cons_zero, List.set_cons_succ]
  refine float_call 1 19 rfl rfl rfl rfl rfl (fun _ => rfl) (fun _ => rfl) (by kernel_rfl) (by kernel_rfl) (by decide) (by decide) hz (by show _ ≤ wP.heap.size; omega) 12 #[.agg #[.bool g0, .int .i64 m0, .int .i64 e0]] (fun _ => by go_simp) (fun _ _ => by go_simp) (fun _ h => ⟨RowAt.below hSR.1 h (by first | omega | (show _ < wP.heap.size; omega)), RowAt.below hSR.2.1 h (by first | omega | (show _ < wP.heap.size; omega)), RowAt.below hSR.2.2 h (by first | omega | (show _ < wP.heap.size; omega))⟩) _ (fun w' _ => toReal_any g0 m0 e0 w') ?_
  rintro wa ea wbR hWa ⟨rfl, hWb'⟩
  have hWb : Below wP.heap.size wP wbR := (⟨hWa.os, hWa.tape, hWa.output, hWa.size, hWa.block⟩ : Below wP.heap.size wP wa).trans (hWb'.mono hWa.size)
  have hsb := hWb.size
  have hSb : RowAt wbR w.heap.size 23 #[.bool g0, .int .i64 m0, .int .i64 e0] ∧ RowAt wbR (w.heap.size + 1) 23 #[.bool g1, .int .i64 m1, .int .i64 e1] ∧ RowAt wbR bP 25 #[.bool a, .int .i64 b, .int .i64 c] := ⟨RowAt.below hS0.1 hWb (by first | omega | (show _ < wP.heap.size; omega)), RowAt.below hS0.2.1 hWb (by first | omega | (show _ < wP.heap.size; omega)), RowAt.below hS0.2.2 hWb (by first | omega | (show _ < wP.heap.size; omega))⟩
  refine ⟨_, rfl, hWb', ?_⟩
  simp only [Act.put, List.setIfInBounds_toArray, List.set_cons_zero, List.set_cons_succ]
  refine float_call 3 21 rfl rfl rfl rfl rfl (fun _ => rfl) (fun _ => rfl) (by kernel_rfl) (by kernel_rfl) (by decide) (by decide) hz (by omega) 12 #[.agg #[.bool g1, .int .i64 m1, .int .i64 e1]] (fun _ => by go_simp) (fun _ _ => by go_simp) (fun _ h => ⟨RowAt.below hSb.1 h (by first | omega | (show _ < wP.heap.size; omega)), RowAt.below hSb.2.1 h (by first | omega | (show _ < wP.heap.size; omega)), RowAt.below hSb.2.2 h (by first | omega | (show _ < wP.heap.size; omega))⟩) _ (fun w' _ => toReal_any g1 m1 e1 w') ?_
  rintro wc ec wdR hWc ⟨rfl, hWd'⟩
  have hWd : Below wP.heap.size wP wdR := hWb.trans ((hWc.trans (hWd'.mono hWc.size)).mono hsb)
  have hsd := hWd.size
  have hSd : RowAt wdR w.heap.size 23 #[.bool g0, .int .i64 m0, .int .i64 e0] ∧ RowAt wdR (w.heap.size + 1) 23 #[.bool g1, .int .i64 m1, .int .i64 e1] ∧ RowAt wdR bP 25 #[.bool a, .int .i64 b, .int .i64 c] := ⟨RowAt.below hS0.1 hWd (by first | omega | (show _ < wP.heap.size; omega)), RowAt.below hS0.2.1 hWd (by first | omega | (show _ < wP.heap.size; omega)), RowAt.below hS0.2.2 hWd (by first | omega | (show _ < wP.heap.size; omega))⟩
  refine ⟨_, rfl, hWd', ?_⟩
  simp only [Act.put, List.setIfInBounds_toArray, List.set_cons_zero, List.set_cons_succ]
  refine float_call 4 22 rfl rfl rfl rfl rfl (fun _ => rfl) (fun _ => rfl) (by kernel_rfl) (by kernel_rfl) (by decide) (by decide) hz (by omega) 24 #[.agg #[.bool g0, .int .i64 m0, .int .i64 e0], .agg #[.bool g1, .int .i64 m1, .int .i64 e1]] (fun _ => by go_simp) (fun _ _ => by go_simp) (fun _ h => ⟨RowAt.below hSd.1 h (by first | omega | (show _ < wP.heap.size; omega)), RowAt.below hSd.2.1 h (by first | omega | (show _ < wP.heap.size; omega)), RowAt.below hSd.2.2 h (by first | omega | (show _ < wP.heap.size; omega))⟩) _ (fun w' _ => implSubReal_any g0 m0 e0 g1 m1 e1 w') ?_
  rintro we ee wfR hWe ⟨hAR, hWf'⟩
  obtain ⟨_, _, _, _, he1, he2⟩ := HA.out.same hAR
  subst he2
  clear he1 hAR
  have hWf : Below wP.heap.size wP wfR := hWd.trans ((hWe.trans (hWf'.mono hWe.size)).mono hsd)
  have hsf := hWf.size
  have hSf : RowAt wfR w.heap.size 23 #[.bool g0, .int .i64 m0, .int .i64 e0] ∧ RowAt wfR (w.heap.size + 1) 23 #[.bool g1, .int .i64 m1, .int .i64 e1] ∧ RowAt wfR bP 25 #[.bool a, .int .i64 b, .int .i64 c] := ⟨RowAt.below hS0.1 hWf (by first | omega | (show _ < wP.heap.size; omega)), RowAt.below hS0.2.1 hWf (by first | omega | (show _ < wP.heap.size; omega)), RowAt.below hS0.2.2 hWf (by first | omega | (show _ < wP.heap.size; omega))⟩
  refine ⟨_, rfl, hWf', ?_⟩
  simp only [Act.put, List.setIfInBounds_toArray, List.set_cons_zero, List.set_cons_succ]
  refine float_val 5 17 rfl rfl (by kernel_rfl) (by kernel_rfl) (by kernel_rfl) (by kernel_rfl) (by kernel_rfl) noPanic_put (fun _ => rfl) (by decide) (by decide) (.tuple #[.agg #[.bool a, .int .i64 b, .int .i64 c], .bool d]) (fun _ _ => by go_simp) (fun _ => fun _ _ => by go_simp) (fun _ h => ⟨RowAt.below hSf.1 h (by first | omega | (show _ < wP.heap.size; omega)), RowAt.below hSf.2.1 h (by first | omega | (show _ < wP.heap.size; omega)), RowAt.below hSf.2.2 h (by first | omega | (show _ < wP.heap.size; omega))⟩) ?_
  simp only [Act.put, List.setIfInBounds_toArray, List.set_cons_zero, List.set_cons_succ]
  refine float_val 6 23 rfl rfl (by kernel_rfl) (by kernel_rfl) (by kernel_rfl) (by kernel_rfl) (by kernel_rfl) noPanic_put (fun _ => rfl) (by decide) (by decide) (.agg #[.bool a, .int .i64 b, .int .i64 c]) (fun _ _ => by go_simp) (fun _ => fun _ _ => by go_simp) (fun _ h => ⟨RowAt.below hSf.1 h (by first | omega | (show _ < wP.heap.size; omega)), RowAt.below hSf.2.1 h (by first | omega | (show _ < wP.heap.size; omega)), RowAt.below hSf.2.2 h (by first | omega | (show _ < wP.heap.size; omega))⟩) ?_
  simp only [Act.put, List.setIfInBounds_toArray, List.set_cons_zero, List.set_cons_succ]
  refine float_val 7 24 rfl rfl (by kernel_rfl) (by kernel_rfl) (by kernel_rfl) (by kernel_rfl) (by kernel_rfl) noPanic_put (fun _ => rfl) (by decide) (by decide) (.bool d) (fun _ _ => by go_simp) (fun _ => fun _ _ => by go_simp) (fun _ h => ⟨RowAt.below hSf.1 h (by first | omega | (show _ < wP.heap.size; omega)), RowAt.below hSf.2.1 h (by first | omega | (show _ < wP.heap.size; omega)), RowAt.below hSf.2.2 h (by first | omega | (show _ < wP.heap.size; omega))⟩) ?_
  simp only [Act.put, List.setIfInBounds_toArray, List.set_cons_zero, List.set_cons_succ]
  refine float_end rfl rfl rfl (fun _ => rfl) (by kernel_rfl) hz (by omega) (fun _ h => ⟨RowAt.below hSf.1 h (by first | omega | (show _ < wP.heap.size; omega)), RowAt.below hSf.2.1 h (by first | omega | (show _ < wP.heap.size; omega)), RowAt.below hSf.2.2 h (by first | omega | (show _ < wP.heap.size; omega))⟩) ?_
  intro wg bR hWg hRp hbb
  simp only [Act.put, List.setIfInBounds_toArray, List.set_cons_zero, List.set_cons_succ]
  have hVg : Below wP.heap.size wP wg := hWf.trans (hWg.mono hsf)
  have hSg : RowAt wg w.heap.size 23 #[.bool g0, .int .i64 m0, .int .i64 e0] ∧ RowAt wg (w.heap.size + 1) 23 #[.bool g1, .int .i64 m1, .int .i64 e1] ∧ RowAt wg bP 25 #[.bool a, .int .i64 b, .int .i64 c] := ⟨RowAt.below hS0.1 hVg (by first | omega | (show _ < wP.heap.size; omega)), RowAt.below hS0.2.1 hVg (by first | omega | (show _ < wP.heap.size; omega)), RowAt.below hS0.2.2 hVg (by first | omega | (show _ < wP.heap.size; omega))⟩
  have hlt := RowAt.lt hRp
  refine held_store_real 9 (by kernel_rfl) rfl rfl _ _ rfl rfl bR a b c rfl rfl false 0 0 hRp ?_
  intro wR hNR hgh hsh
  have hShR : RowAt wR w.heap.size 23 #[.bool g0, .int .i64 m0, .int .i64 e0] ∧ RowAt wR (w.heap.size + 1) 23 #[.bool g1, .int .i64 m1, .int .i64 e1] ∧ RowAt wR bP 25 #[.bool a, .int .i64 b, .int .i64 c] := ⟨RowAt.grown hSg.1 hgh (by simp; omega), RowAt.grown hSg.2.1 hgh (by simp; omega), RowAt.grown hSg.2.2 hgh (by simp; omega)⟩
  refine ⟨hShR, ?_⟩
  refine held_assign 10 (some 8) (by kernel_rfl) rfl rfl _ rfl rfl (.bool d) rfl hShR ?_
  simp only [Act.put, List.setIfInBounds_toArray, List.set_cons_zero, List.set_cons_succ]
  refine wpAnyH_done (by kernel_rfl) ?_ _
  refine NoPanic.normal ?_
  have hBR : Below w.heap.size w wR := (hBP.trans (hVg.mono (by omega))).grown hgh (by have := hVg.size; omega) (by intro k hk; cases hk; omega)
  have hsR : w.heap.size ≤ wR.heap.size := hBR.size
  have j0 : wR.cell? ⟨bR, 0, none⟩ = some (.bool a) := by rw [cell_of_row _ _ _ _ _ _ hNR]; rfl
  have j1 : wR.cell? ⟨bR, 1, none⟩ = some (.int .i64 b) := by rw [cell_of_row _ _ _ _ _ _ hNR]; rfl
  have j2 : wR.cell? ⟨bR, 2, none⟩ = some (.int .i64 c) := by rw [cell_of_row _ _ _ _ _ _ hNR]; rfl
  have k0 : wR.cell? ⟨bP, 0, none⟩ = some (.bool a) := by rw [cell_of_row _ _ _ _ _ _ hShR.2.2]; rfl
  have k1 : wR.cell? ⟨bP, 1, none⟩ = some (.int .i64 b) := by rw [cell_of_row _ _ _ _ _ _ hShR.2.2]; rfl
  have k2 : wR.cell? ⟨bP, 2, none⟩ = some (.int .i64 c) := by rw [cell_of_row _ _ _ _ _ _ hShR.2.2]; rfl
  have HE := hideT' (fun w' => eqReal_any a b c w')
  have hd : (d != d) = false := by cases d <;> rfl
  clear hS0 hSR hSb hSd hSf hSg hWa hWb hWb' hWc hWd hWd' hWe hWf hWf' hWg hVg hRp hgh hsh hsb hsd hsf hlt hShP hNP hBP hNR hShR HA
  go_wp2_with fail
  refine (HE.out _).mono ?_
  rintro _ wz ⟨rfl, hWz⟩
  have hBz : Below w.heap.size w wz := hBR.trans (hWz.mono hsR)
  clear j0 j1 j2 k0 k1 k2 hWz
  go_wp2
  go_ret
  exact ⟨rfl, hBz⟩


set_option maxRecDepth 100000 in
theorem lifted (os : Os) (started : os.Started) (H : Type) (enc : TypeId × Value → H) :
    ReturnsInHanded {} Try.checked os 8 .any (Rows.fnExactSubRealSpec.pre6 enc Try.prog Try.f8 Rows.fnExactSubRealRow.domain false) (Rows.fnExactSubRealSpec.post enc Try.prog Try.f8 false true false false) := by
  refine returnsInHanded_of_change (C := Try.checked) own started (by kernel_rfl) Try.func8
    (ChangeSpec.witness6 (enc := enc) (C := Try.checked) false ⟨#[], #[.agg #[.bool false, .int .i64 0, .int .i64 0], .agg #[.bool false, .int .i64 0, .int .i64 0]], []⟩ 8 (by kernel_rfl) (by kernel_rfl) (by kernel_rfl) (by kernel_rfl)) ?_
  intro W base args ds gs before hval0 hW hcnd _
  have hval : ∀ (j : Nat) t v, Try.f8.params[j]? = some t → args[j]? = some v → Value.okWide Try.prog W .any base t v := hval0
  have hW' := hW
  obtain ⟨p, q, hA0, hV, rfl, hfz, hnd⟩ := hW
  have hA : DataW.TrodAll enc Try.prog W 0 (fun _ => true) true Try.f8.params.toList args.toList ds p := hA0
  rw [Try.params8] at hA hval
  obtain ⟨v0, vs0, d0, ds0, p0, q0, hargs, rfl, rfl, h0, r0⟩ := trodAll_cons hA
  obtain ⟨v1, vs1, d1, ds1, p1, q1, rfl, rfl, rfl, h1, r1⟩ := trodAll_cons r0
  obtain ⟨rfl, rfl, rfl⟩ := trodAll_nil r1
  obtain rfl : args = #[v0, v1] := by cases args; simp_all
  obtain ⟨rfl, rfl⟩ := trodVars_none hV
  obtain ⟨g0, m0, e0, rfl⟩ := open_real (hval 0 23 v0 rfl rfl) h0
  obtain ⟨g1, m1, e1, rfl⟩ := open_real (hval 1 23 v1 rfl rfl) h1
  clear hA0 hval0
  simp only [List.append_nil] at hW'
  have lt0 : ∀ x ∈ p0, x.block < W.heap.size := fun x hx => hW'.lt x (by simp [hx])
  have lt1 : ∀ x ∈ p1, x.block < W.heap.size := fun x hx => hW'.lt x (by simp [hx])
  refine (walk g0 m0 e0 g1 m1 e1 W).mono fun e W' ⟨he, bel⟩ => ?_
  subst he
  exact ⟨_, rfl, _, _, _, [], _, [], hW', (trodAll_cons_mk (shut_bool Try.underlying4 _) trodAll_mk0), (trodAll_cons_mk (Below.trod laidOutR (by kernel_rfl) (of_decide_eq_true (by kernel_rfl)) h0 bel lt0) (trodAll_cons_mk (Below.trod laidOutR (by kernel_rfl) (of_decide_eq_true (by kernel_rfl)) h1 bel lt1) trodAll_mk0)), rfl, bel.frame _, fun h => by cases h⟩

theorem over : Rows.fnExactSubRealRow.holds Try.pinned (OpenSpec.ofChange Rows.fnExactSubRealSpec) :=
  OpenClaim.holds_of_wide 8 Try.f8 rfl rfl rfl rfl rfl rfl rfl ⟨rfl, rfl, rfl, rfl, rfl⟩ rfl rfl rfl rfl rfl (by kernel_rfl) Try.func8 (by kernel_rfl)
    (of_decide_eq_true (by kernel_rfl)) (by unfold Func.isWrapper; first | (rw [if_pos (by decide +kernel)]; kernel_rfl) | (rw [if_neg (by decide +kernel)]; exact ⟨rfl, rfl⟩))
    (fun os started H enc _ => lifted os started H enc)

end Go.Proofs.Ytoiegaggekgmjaa.fnExactSubReal

namespace Go.Proofs.Ytoiegaggekgmjaa
theorem subReal_holds : Rows.FnExactSubRealSaid := fnExactSubReal.over
#print axioms subReal_holds
end Go.Proofs.Ytoiegaggekgmjaa
