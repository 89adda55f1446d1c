/-
  Proved: for all arguments that can be read, laws.FnExactNextReal answers true (NextReal answers as its model), and its arguments read behind the call as before.
  No condition but the row's own. The frame is the one that the guide's program wrote.
-/
import Derived.Test.YtoiegaggekgmjaaRows
import Derived.Test.YtoiegaggekgmjaaSpecReal
import Derived.Test.YtoiegaggekgmjaaRealLaw
import Derived.WalkKit
import Derived.ProofKit
import Derived.OpenShut
import Derived.ShutString
import Derived.ChangeOld
import Derived.Below
import Derived.Carry
namespace Go.Proofs.Ytoiegaggekgmjaa.fnExactNextReal
open Go.ChangeShapes Go.WideShapes Go.ChangeAt Go.RowKit
open Go.ChangeMaps (open_string shut_string)
set_option linter.unusedVariables false

theorem own : ownKnob Try.prog.godebug = none := by kernel_rfl

set_option maxHeartbeats 2000000 in
theorem walk (g0 : Bool) (m0 e0 : Int) (w : World) :
    Calls Try.prog 6 #[.agg #[.bool g0, .int .i64 m0, .int .i64 e0]] w fun e' w' => e' = .returned (.bool true) ∧ Below w.heap.size w w' := by
  have hR0 : RowAt (w.alloc (.cells #[.bool g0, .int .i64 m0, .int .i64 e0] 23)) (w.heap.size) 23 #[.bool g0, .int .i64 m0, .int .i64 e0] := by
    have h := RowAt.new w 23 #[.bool g0, .int .i64 m0, .int .i64 e0]
    exact h
  have hB : Below w.heap.size w (w.alloc (.cells #[.bool g0, .int .i64 m0, .int .i64 e0] 23)) := ((Below.refl w.heap.size w).alloc (by first | exact Nat.le_refl _ | (simp; done) | (simp; omega)) _)
  obtain ⟨W0, hW0⟩ : ∃ W0, W0 = (w.alloc (.cells #[.bool g0, .int .i64 m0, .int .i64 e0] 23)) := ⟨_, rfl⟩
  have HK : Hid (∀ w', Below (w.heap.size + 1) (w.alloc (.cells #[.bool g0, .int .i64 m0, .int .i64 e0] 23)) w' → w'.cell? ⟨w.heap.size, 0, none⟩ = some (.bool g0) ∧ w'.cell? ⟨w.heap.size, 1, none⟩ = some (.int .i64 m0) ∧ w'.cell? ⟨w.heap.size, 2, none⟩ = some (.int .i64 e0) ∧ Below w.heap.size w w' ∧ w.heap.size + 1 ≤ w'.heap.size) := by
    intro w' h
    have hr0 := RowAt.below hR0 h (by omega)
    refine ⟨by rw [cell_of_row w' _ _ _ _ _ hr0]; rfl, by rw [cell_of_row w' _ _ _ _ _ hr0]; rfl, by rw [cell_of_row w' _ _ _ _ _ hr0]; rfl, hB.trans (h.mono (by omega)), by have := h.size; simpa using this⟩
  obtain ⟨a, b, c, d, hv⟩ : ∃ (a : Bool) (b c : Int) (d : Bool), nextV g0 m0 e0 = .tuple #[.agg #[.bool a, .int .i64 b, .int .i64 c], .bool d] := by unfold nextV; split; exact ⟨_, _, _, _, rfl⟩; exact ⟨_, _, _, _, rfl⟩
  have HS := hideT' (fun w' => specNextReal_any g0 m0 e0 w')
  have HI := hideT' (fun w' => implNextReal_any g0 m0 e0 w')
  have HT0 := hideT' (fun w' => toReal_any g0 m0 e0 w')
  have HE := hideT' (fun w' => eqReal_any a b c w')
  simp only [hv] at HS HI
  have hz := zero_real.1
  have hd : (d != d) = false := by cases d <;> rfl
  clear hR0 hB hv hW0
  go_enter Try.func6, Try.ntmps6
  go_wp2_with fail
  refine (HT0.out _).mono ?_
  rintro _ w1 ⟨rfl, hW1⟩
  have hX1 : Below (w.heap.size + 1) (w.alloc (.cells #[.bool g0, .int .i64 m0, .int .i64 e0] 23)) w1 := hW1.mono (by simp)
  obtain ⟨k0, k1, k2, hY1, hs1⟩ := HK.out w1 hX1
  go_wp2_with fail
  refine (HS.out _).mono ?_
  rintro _ w2 ⟨rfl, hW2⟩
  have hX2 := hX1.trans (hW2.mono hs1)
  clear k0 k1 k2
  obtain ⟨k0, k1, k2, hY2, hs2⟩ := HK.out w2 hX2
  have hRa : RowAt (w2.alloc (.cells #[.bool a, .int .i64 b, .int .i64 c] 25)) w2.heap.size 25 #[.bool a, .int .i64 b, .int .i64 c] := RowAt.new _ _ _
  have hXa : Below (w.heap.size + 1) (w.alloc (.cells #[.bool g0, .int .i64 m0, .int .i64 e0] 23)) (w2.alloc (.cells #[.bool a, .int .i64 b, .int .i64 c] 25)) := hX2.alloc (by omega) _
  clear k0 k1 k2
  obtain ⟨k0, k1, k2, _, hsa⟩ := HK.out _ hXa
  go_wp2_with fail
  refine (HT0.out _).mono ?_
  rintro _ w3 ⟨rfl, hW3⟩
  have hX3 := hXa.trans (hW3.mono hsa)
  have hRa3 := RowAt.below hRa hW3 (by simp)
  have hla3 : w2.heap.size + 1 ≤ w3.heap.size := by have := hW3.size; simpa using this
  clear hRa hXa
  clear k0 k1 k2
  obtain ⟨k0, k1, k2, hY3, hs3⟩ := HK.out w3 hX3
  go_wp2_with fail
  refine (HI.out _).mono ?_
  rintro _ w4 ⟨rfl, hW4⟩
  have hX4 := hX3.trans (hW4.mono hs3)
  have hRa4 := RowAt.below hRa3 hW4 (by omega)
  clear k0 k1 k2
  obtain ⟨_, _, _,  hY4, hs4⟩ := HK.out w4 hX4
  have hRn := RowAt.old hRa4 (.cells #[.bool a, .int .i64 b, .int .i64 c] 25)
  have ka : (w4.alloc (.cells #[.bool a, .int .i64 b, .int .i64 c] 25)).cell? ⟨w2.heap.size, 0, none⟩ = some (.bool a) := by rw [cell_of_row _ _ _ _ _ _ hRn]; rfl
  have kb : (w4.alloc (.cells #[.bool a, .int .i64 b, .int .i64 c] 25)).cell? ⟨w2.heap.size, 1, none⟩ = some (.int .i64 b) := by rw [cell_of_row _ _ _ _ _ _ hRn]; rfl
  have kc : (w4.alloc (.cells #[.bool a, .int .i64 b, .int .i64 c] 25)).cell? ⟨w2.heap.size, 2, none⟩ = some (.int .i64 c) := by rw [cell_of_row _ _ _ _ _ _ hRn]; rfl
  have hBn : Below w.heap.size w (w4.alloc (.cells #[.bool a, .int .i64 b, .int .i64 c] 25)) := hY4.alloc hY4.size _
  clear hRn
  go_wp2_with fail
  refine (HE.out _).mono ?_
  rintro _ w5 ⟨rfl, hW5⟩
  have hBz : Below w.heap.size w w5 := hBn.trans (hW5.mono (by simp; have := hY4.size; omega))
  clear ka kb kc hW5
  go_wp2
  go_ret
  exact ⟨rfl, hBz⟩


set_option maxRecDepth 100000 in
theorem lifted (os : Os) (started : os.Started) (H : Type) (enc : TypeId × Value → H) :
    ReturnsInHanded {} Try.checked os 6 .any (Rows.fnExactNextRealSpec.pre6 enc Try.prog Try.f6 Rows.fnExactNextRealRow.domain false) (Rows.fnExactNextRealSpec.post enc Try.prog Try.f6 false true false false) := by
  refine returnsInHanded_of_change (C := Try.checked) own started (by kernel_rfl) Try.func6
    (ChangeSpec.witness6 (enc := enc) (C := Try.checked) false ⟨#[], #[.agg #[.bool false, .int .i64 0, .int .i64 0]], []⟩ 8 (by kernel_rfl) (by kernel_rfl) (by kernel_rfl) (by kernel_rfl)) ?_
  intro W base args ds gs before hval0 hW hcnd _
  have hval : ∀ (j : Nat) t v, Try.f6.params[j]? = some t → args[j]? = some v → Value.okWide Try.prog W .any base t v := hval0
  have hW' := hW
  obtain ⟨p, q, hA0, hV, rfl, hfz, hnd⟩ := hW
  have hA : DataW.TrodAll enc Try.prog W 0 (fun _ => true) true Try.f6.params.toList args.toList ds p := hA0
  rw [Try.params6] at hA hval
  obtain ⟨v0, vs0, d0, ds0, p0, q0, hargs, rfl, rfl, h0, r0⟩ := trodAll_cons hA
  obtain ⟨rfl, rfl, rfl⟩ := trodAll_nil r0
  obtain rfl : args = #[v0] := by cases args; simp_all
  obtain ⟨rfl, rfl⟩ := trodVars_none hV
  obtain ⟨g0, m0, e0, rfl⟩ := open_real (hval 0 23 v0 rfl rfl) h0
  clear hA0 hval0
  simp only [List.append_nil] at hW'
  have lt0 : ∀ x ∈ p0, x.block < W.heap.size := fun x hx => hW'.lt x (by simp [hx])
  refine (walk g0 m0 e0 W).mono fun e W' ⟨he, bel⟩ => ?_
  subst he
  exact ⟨_, rfl, _, _, _, [], _, [], hW', (trodAll_cons_mk (shut_bool Try.underlying4 _) trodAll_mk0), (trodAll_cons_mk (Below.trod laidOutR (by kernel_rfl) (of_decide_eq_true (by kernel_rfl)) h0 bel lt0) trodAll_mk0), rfl, bel.frame _, fun h => by cases h⟩

theorem over : Rows.fnExactNextRealRow.holds Try.pinned (OpenSpec.ofChange Rows.fnExactNextRealSpec) :=
  OpenClaim.holds_of_wide 6 Try.f6 rfl rfl rfl rfl rfl rfl rfl ⟨rfl, rfl, rfl, rfl, rfl⟩ rfl rfl rfl rfl rfl (by kernel_rfl) Try.func6 (by kernel_rfl)
    (of_decide_eq_true (by kernel_rfl)) (by unfold Func.isWrapper; first | (rw [if_pos (by decide +kernel)]; kernel_rfl) | (rw [if_neg (by decide +kernel)]; exact ⟨rfl, rfl⟩))
    (fun os started H enc _ => lifted os started H enc)

end Go.Proofs.Ytoiegaggekgmjaa.fnExactNextReal

namespace Go.Proofs.Ytoiegaggekgmjaa
theorem nextReal_holds : Rows.FnExactNextRealSaid := fnExactNextReal.over
#print axioms nextReal_holds
end Go.Proofs.Ytoiegaggekgmjaa
