/-
  Proved: for all arguments that can be read, laws.FnExactGoodYoung answers true (GoodYoung answers as its model), and its arguments read behind the call as before.
  No condition but the row's own. The frame is the one that the guide's program wrote.
-/
import Derived.Test.YtoaancgmahdbnaaRows
import Derived.Test.YtoaancgmahdbnaaYgGoodI
import Derived.WalkKit
import Derived.ProofKit
import Derived.OpenShut
import Derived.ShutString
import Derived.ChangeOld
import Derived.Below
import Derived.Carry
namespace Go.Proofs.Ytoaancgmahdbnaa.fnExactGoodYoung
open Go.ChangeShapes Go.WideShapes Go.ChangeAt Go.RowKit
open Go.ChangeMaps (open_string shut_string)
set_option linter.unusedVariables false

theorem own : ownKnob Try.prog.godebug = none := by kernel_rfl

set_option maxHeartbeats 4000000 in
set_option maxRecDepth 100000 in
theorem walk (m : Yg) (vl vr vn : Value) (w : World) (hv : YgIn w vl vr vn m) (hs : YgSmall m maxLen) :
    Calls Try.prog 3 #[.agg #[.int .i64 m.h.old, vl, vr, vn]] w fun e w' => e = .returned (.bool true) ∧ Below w.heap.size w w' := by
  obtain ⟨o1, c1, e1⟩ := hv.1.1.len
  obtain ⟨o2, c2, e2⟩ := hv.1.2.len
  obtain ⟨o3, c3, e3⟩ := hv.2.len
  subst e1 e2 e3
  have hR := RowAt.new w 25 #[.int .i64 m.h.old, .slice o1 m.h.cells.length c1, .slice o2 m.h.roots.length c2, .slice o3 m.noted.length c3]
  have hB0 : Below w.heap.size w (w.alloc (.cells #[.int .i64 m.h.old, .slice o1 m.h.cells.length c1, .slice o2 m.h.roots.length c2, .slice o3 m.noted.length c3] 25)) := (Below.refl _ _).alloc (Nat.le_refl _) _
  have HV := hideT' hv
  have HR := hideT' hR
  have hzm := zero_yg.1
  have HC1 := hideT' (szYoung_any m _ _ _ _ (hv.below hB0) hs)
  -- what every later world knows
  have HF : Hid (∀ w', Below (w.heap.size + 1) (w.alloc (.cells #[.int .i64 m.h.old, .slice o1 m.h.cells.length c1, .slice o2 m.h.roots.length c2, .slice o3 m.noted.length c3] 25)) w' → (w'.cell? ⟨w.heap.size, 0, none⟩ = some (.int .i64 m.h.old) ∧ w'.cell? ⟨w.heap.size, 1, none⟩ = some (.slice o1 m.h.cells.length c1) ∧ w'.cell? ⟨w.heap.size, 2, none⟩ = some (.slice o2 m.h.roots.length c2) ∧ w'.cell? ⟨w.heap.size, 3, none⟩ = some (.slice o3 m.noted.length c3)) ∧ Below w.heap.size w w' ∧ w.heap.size + 1 ≤ w'.heap.size ∧ RowAt w' w.heap.size 25 #[.int .i64 m.h.old, .slice o1 m.h.cells.length c1, .slice o2 m.h.roots.length c2, .slice o3 m.noted.length c3]) := by
    intro w' h
    have hr := RowAt.below HR.out h (by omega)
    refine ⟨⟨?_, ?_, ?_, ?_⟩, hB0.trans (h.mono (by omega)), by have := h.size; simpa using this, hr⟩ <;> (rw [cell_of_row w' _ _ _ _ _ hr]; rfl)
  clear hv hs hR hB0
  go_enter Try.func3, Try.ntmps3
  go_wp2_with fail
  refine HC1.out.mono ?_
  rintro e w1 ⟨⟨r, rfl, hr⟩, hB1⟩
  have hB1' : Below (w.heap.size + 1) (w.alloc (.cells #[.int .i64 m.h.old, .slice o1 m.h.cells.length c1, .slice o2 m.h.roots.length c2, .slice o3 m.noted.length c3] 25)) w1 := hB1.mono (by simp)
  obtain ⟨⟨f0, f1, f2, f3⟩, hT1, hs1, _⟩ := HF.out w1 hB1'
  rcases hr with rfl | ⟨hr0, hsm⟩
  · go_wp2
    go_ret
    exact ⟨rfl, hT1⟩
  have hrn : ¬ r < 0 := by omega
  have HSM := hideT' hsm
  have HC2 := hideT' (toYoung_any m _ _ _ w1 (HV.out.below hT1) hsm)
  clear hsm hB1
  go_wp2_with fail
  refine HC2.out.mono ?_
  rintro e w2 ⟨⟨b2, c2', d2', rfl, hb2, hc2, hd2, hM2⟩, hB2⟩
  have hB2' := hB1'.trans (hB2.mono hs1)
  obtain ⟨⟨g0, g1, g2, g3⟩, hT2, hs2, _⟩ := HF.out w2 hB2'
  have HC3 := hideT' (specGoodYoung_any m _ _ _ w2 HSM.out HSM.out.2 hM2.rd)
  clear hB2 hM2 f0 f1 f2 f3
  go_wp2_with fail
  refine HC3.out.mono ?_
  rintro e w3 ⟨rfl, hB3⟩
  have hB3' := hB2'.trans (hB3.mono hs2)
  obtain ⟨⟨k0, k1, k2, k3⟩, hT3, hs3, _⟩ := HF.out w3 hB3'
  obtain ⟨q, hq⟩ : ∃ q, q = ygOk m := ⟨_, rfl⟩
  rw [← hq]
  have HQ := hideT' hq
  have HC4 := hideT' (toYoung_any m _ _ _ w3 (HV.out.below hT3) HSM.out)
  clear hq hB3 g0 g1 g2 g3
  go_wp2_with fail
  refine HC4.out.mono ?_
  rintro e w4 ⟨⟨b4, c4, d4, rfl, hb4, hc4, hd4, hM4⟩, hB4⟩
  have hB4' := hB3'.trans (hB4.mono hs3)
  have hs4 := (HF.out w4 hB4').2.2.1
  obtain ⟨l4b, l4c, l4d⟩ := hM4.lt
  have hBn : Below w4.heap.size w4 (w4.alloc (.cells #[.int .i64 m.h.old, slR b4 m.h.cells, slR c4 m.h.roots, slR d4 m.noted] 30)) := (Below.refl _ _).alloc (Nat.le_refl _) _
  have hB5' := hB4'.trans (hBn.mono hs4)
  have hRx := RowAt.new w4 30 #[.int .i64 m.h.old, slR b4 m.h.cells, slR c4 m.h.roots, slR d4 m.noted]
  have hM5 := hM4.below hBn l4b l4c l4d
  have HC5 := hideT' (implGoodYoung_any m _ _ _ (w4.alloc (.cells #[.int .i64 m.h.old, slR b4 m.h.cells, slR c4 m.h.roots, slR d4 m.noted] 30)) HSM.out HSM.out.2 hM5.rd (fun o n c e => by cases e; exact Nat.le_refl _))
  have HX5 := hideT' (And.intro hRx hM5)
  clear hB4 hM4 hRx hM5 k0 k1 k2 k3 hBn
  go_wp2_with fail
  refine HC5.out.mono ?_
  rintro e w6 ⟨rfl, hB6⟩
  have hs6 := hB6.size
  simp only [World.size_alloc] at hs6
  have hB6' := hB5'.trans (hB6.mono (by simp; omega))
  obtain ⟨_, hT6, _, hR6⟩ := HF.out w6 hB6'
  have hX6 := RowAt.below HX5.out.1 hB6 (by simp)
  have hM6 := HX5.out.2.below hB6 (by simp; omega) (by simp; omega) (by simp; omega)
  rw [← HQ.out]
  have hqq : (q != q) = false := by cases q <;> rfl
  clear hB6 hB4' hB5'
  go_wp2_with fail
  have hS : (RowAt w6.drew w4.heap.size 30 #[.int .i64 m.h.old, slR b4 m.h.cells, slR c4 m.h.roots, slR d4 m.noted] ∧ RowAt w6.drew w.heap.size 25 #[.int .i64 m.h.old, .slice o1 m.h.cells.length c1, .slice o2 m.h.roots.length c2, .slice o3 m.noted.length c3]) ∧ YgAt w6.drew b4 c4 d4 m := ⟨⟨hX6, hR6⟩, hM6⟩
  refine held_begin (fun w' => (RowAt w' w4.heap.size 30 #[.int .i64 m.h.old, slR b4 m.h.cells, slR c4 m.h.roots, slR d4 m.noted] ∧ RowAt w' w.heap.size 25 #[.int .i64 m.h.old, .slice o1 m.h.cells.length c1, .slice o2 m.h.roots.length c2, .slice o3 m.noted.length c3]) ∧ YgAt w' b4 c4 d4 m) (by kernel_rfl) ?_
  refine held_valS 0 (some 22) rfl rfl (by kernel_rfl) (by kernel_rfl) (by kernel_rfl) noPanic_put rfl (.agg (ygC b4 c4 d4 m)) (fun w' h => run_loadRow (.tmp 5) 30 rfl w4.heap.size rfl _ _ h.1.1 Try.underlying30 zero_yg.2) hS ?_
  simp only [Act.put, List.setIfInBounds_toArray, List.set_cons_zero, List.set_cons_succ]
  refine held_valS 1 (some 23) rfl rfl (by kernel_rfl) (by kernel_rfl) (by kernel_rfl) noPanic_put rfl (.agg #[.int .i64 m.h.old, .slice o1 m.h.cells.length c1, .slice o2 m.h.roots.length c2, .slice o3 m.noted.length c3]) (fun w' h => run_loadRow (.tmp 1) 25 rfl w.heap.size rfl _ _ h.1.2 Try.underlying25 size_lyg) hS ?_
  simp only [Act.put, List.setIfInBounds_toArray, List.set_cons_zero, List.set_cons_succ]
  refine held_call 2 (some 24) (by kernel_rfl) rfl rfl rfl 14 #[.agg #[.int .i64 m.h.old, .slice o1 m.h.cells.length c1, .slice o2 m.h.roots.length c2, .slice o3 m.noted.length c3]] (by go_simp) _ (toYoung_any m _ _ _ w6.drew (HV.out.below hT6.drew) HSM.out) ?_
  rintro e w7 ⟨⟨b7, c7, d7, rfl, hb7, hc7, hd7, hM7⟩, hB7⟩
  have hB7 : Below w6.heap.size w6 w7 := ⟨hB7.os, hB7.tape, hB7.output, hB7.size, hB7.block⟩
  obtain ⟨l6b, l6c, l6d⟩ := hM6.lt
  have hT7 := hT6.trans (hB7.mono hT6.size)
  have hM67 := hM6.below hB7 l6b l6c l6d
  have hS7 : (RowAt w7 w4.heap.size 30 #[.int .i64 m.h.old, slR b4 m.h.cells, slR c4 m.h.roots, slR d4 m.noted] ∧ RowAt w7 w.heap.size 25 #[.int .i64 m.h.old, .slice o1 m.h.cells.length c1, .slice o2 m.h.roots.length c2, .slice o3 m.noted.length c3]) ∧ YgAt w7 b4 c4 d4 m := ⟨⟨RowAt.below hX6 hB7 (RowAt.lt hX6), RowAt.below hR6 hB7 (RowAt.lt hR6)⟩, hM67⟩
  refine ⟨_, rfl, hS7, ?_⟩
  simp only [Act.put, List.setIfInBounds_toArray, List.set_cons_zero, List.set_cons_succ]
  refine held_call 3 (some 25) (by kernel_rfl) rfl rfl rfl 16 #[.agg (ygC b4 c4 d4 m), .agg (ygC b7 c7 d7 m)] (by go_simp) _ (eqYoung_in m _ _ _ _ _ _ w7 HSM.out hM67.rd hM7.rd) ?_
  rintro e w8 ⟨rfl, hB8⟩
  have hT8 := hT7.trans (hB8.mono hT7.size)
  obtain ⟨l7b, l7c, l7d⟩ := hM67.lt
  have hS8 : (RowAt w8 w4.heap.size 30 #[.int .i64 m.h.old, slR b4 m.h.cells, slR c4 m.h.roots, slR d4 m.noted] ∧ RowAt w8 w.heap.size 25 #[.int .i64 m.h.old, .slice o1 m.h.cells.length c1, .slice o2 m.h.roots.length c2, .slice o3 m.noted.length c3]) ∧ YgAt w8 b4 c4 d4 m := ⟨⟨RowAt.below hS7.1.1 hB8 (RowAt.lt hS7.1.1), RowAt.below hS7.1.2 hB8 (RowAt.lt hS7.1.2)⟩, hM67.below hB8 l7b l7c l7d⟩
  refine ⟨_, rfl, hS8, ?_⟩
  simp only [Act.put, List.setIfInBounds_toArray, List.set_cons_zero, List.set_cons_succ]
  refine held_val 4 (some 26) rfl rfl (by kernel_rfl) (by kernel_rfl) (by kernel_rfl) noPanic_put rfl (.bool false) (fun _ => by go_simp) hS8 ?_
  simp only [Act.put, List.setIfInBounds_toArray, List.set_cons_zero, List.set_cons_succ]
  refine wpAnyH_done (by kernel_rfl) ?_ _
  refine NoPanic.normal ?_
  go_wp2
  go_ret
  exact ⟨rfl, hT8⟩

set_option maxRecDepth 100000 in
theorem lifted (os : Os) (started : os.Started) (H : Type) (enc : TypeId × Value → H) :
    ReturnsInHanded {} Try.checked os 3 .any (Rows.fnExactGoodYoungSpec.pre6 enc Try.prog Try.f3 Rows.fnExactGoodYoungRow.domain false) (Rows.fnExactGoodYoungSpec.post enc Try.prog Try.f3 false true false false) := by
  refine returnsInHanded_of_change (C := Try.checked) own started (by kernel_rfl) Try.func3
    (ChangeSpec.witness6 (enc := enc) (C := Try.checked) false ⟨#[], #[.agg #[.int .i64 0, .slice none 0 0, .slice none 0 0, .slice none 0 0]], []⟩ 8 (by kernel_rfl) (by kernel_rfl) (by kernel_rfl) (by kernel_rfl)) ?_
  intro W base args ds gs before hval0 hW hcnd _
  have hval : ∀ (j : Nat) t v, Try.f3.params[j]? = some t → args[j]? = some v → Value.okWide Try.prog W .any base t v := hval0
  have hW' := hW
  obtain ⟨p, q, hA0, hV, rfl, hfz, hnd⟩ := hW
  have hA : DataW.TrodAll enc Try.prog W 0 (fun _ => true) true Try.f3.params.toList args.toList ds p := hA0
  rw [Try.params3] at hA hval
  obtain ⟨v0, vs0, d0, ds0, p0, q0, hargs, rfl, rfl, h0, r0⟩ := trodAll_cons hA
  obtain ⟨rfl, rfl, rfl⟩ := trodAll_nil r0
  obtain rfl : args = #[v0] := by cases args; simp_all
  obtain ⟨rfl, rfl⟩ := trodVars_none hV
  obtain ⟨m0, vl0, vr0, vn0, rfl, g0, s0, n0⟩ := open_young (hval 0 25 v0 rfl rfl) h0
  clear hA0 hval0
  simp only [List.append_nil] at hW'
  have lt0 : ∀ x ∈ p0, x.block < W.heap.size := fun x hx => hW'.lt x (by simp [hx])
  refine (walk m0 vl0 vr0 vn0 W g0 s0).mono fun e W' ⟨he, bel⟩ => ?_
  subst he
  exact ⟨_, rfl, _, _, _, [], _, [], hW', (trodAll_cons_mk (shut_bool Try.underlying4 _) trodAll_mk0), (trodAll_cons_mk (Below.trod laidOutR (by kernel_rfl) (of_decide_eq_true (by kernel_rfl)) h0 bel lt0) trodAll_mk0), rfl, bel.frame _, fun h => by cases h⟩

theorem over : Rows.fnExactGoodYoungRow.holds Try.pinned (OpenSpec.ofChange Rows.fnExactGoodYoungSpec) :=
  OpenClaim.holds_of_wide 3 Try.f3 rfl rfl rfl rfl rfl rfl rfl ⟨rfl, rfl, rfl, rfl, rfl⟩ rfl rfl rfl rfl rfl (by kernel_rfl) Try.func3 (by kernel_rfl)
    (of_decide_eq_true (by kernel_rfl)) (by unfold Func.isWrapper; first | (rw [if_pos (by decide +kernel)]; kernel_rfl) | (rw [if_neg (by decide +kernel)]; exact ⟨rfl, rfl⟩))
    (fun os started H enc _ => lifted os started H enc)

end Go.Proofs.Ytoaancgmahdbnaa.fnExactGoodYoung

namespace Go.Proofs.Ytoaancgmahdbnaa
theorem goodYoung_holds : Rows.FnExactGoodYoungSaid := fnExactGoodYoung.over
#print axioms goodYoung_holds
end Go.Proofs.Ytoaancgmahdbnaa
