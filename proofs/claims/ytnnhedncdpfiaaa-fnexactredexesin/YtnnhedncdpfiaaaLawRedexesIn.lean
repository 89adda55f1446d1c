/-
  Proved: for all arguments that can be read, laws.FnExactRedexesIn answers true (RedexesIn answers as its model, and its answer owns its memory), and its arguments read behind the call as before.
  No condition but the row's own. The frame is the one that the guide's program wrote.
-/
import Derived.Test.YtnnhedncdpfiaaaRows
import Derived.Test.YtnnhedncdpfiaaaSpecRed
import Derived.Test.YtnnhedncdpfiaaaTermArg
import Derived.Test.YtnnhedncdpfiaaaMarkInt
import Derived.WalkKit
import Derived.ProofKit
import Derived.OpenShut
import Derived.ShutString
import Derived.ChangeOld
import Derived.Below
import Derived.Carry
namespace Go.Proofs.Ytnnhedncdpfiaaa.fnExactRedexesIn
open Go.ChangeShapes Go.WideShapes Go.ChangeAt Go.RowKit
open Go.ChangeMaps (open_string shut_string)
set_option linter.unusedVariables false

theorem own : ownKnob Try.prog.godebug = none := by kernel_rfl
theorem lift {w : World} {B C n s : Nat} {T : TypeId} {v : Value} {xs : List Value} (h : w.ownsRow B T s v n xs) (hB : C ≤ B) : w.ownsRow C T s v n xs :=
  ⟨h.1, h.2.imp id fun ⟨g, cap, cur, h1, h2, h3⟩ => ⟨g, cap, cur, h1, Nat.le_trans hB h2, h3⟩⟩

set_option maxHeartbeats 8000000 in
set_option maxRecDepth 100000 in
theorem walk (l : List (Int × Int × Int)) (v : Value) (w : World) (hv : SlR w v termL 3 l) (hl : l.length ≤ maxLen) :
    Calls Try.prog 4 #[v] w fun e w' => e = .returned (.bool true) ∧ Below w.heap.size w w' := by
  have HV := hideT' hv
  have HC1 := hideT' (szTermS_any l v 1048576 w hv (by omega) (by omega) hl)
  clear hv hl
  go_enter Try.func4, Try.ntmps4
  go_wp2_with fail
  refine HC1.out.mono ?_
  rintro e w1 ⟨⟨r, rfl, hr⟩, hw1⟩
  subst hw1
  rcases hr with rfl | ⟨hr0, hr1, hlen⟩
  · go_wp2
    go_ret
    exact ⟨rfl, Below.refl _ _⟩
  have hrn : ¬ r < 0 := by omega
  have hl1 : l.length ≤ 1048576 := by omega
  have hl2 : (ndsOf l).length ≤ 1048576 := by rw [ndsOf_len]; exact hl1
  have HC2 := hideT' (toTermS_any l v w1 HV.out hl1)
  go_wp2_with fail
  refine HC2.out.mono ?_
  rintro e w2 ⟨⟨b2, rfl, hb2, hM2⟩, hB2⟩
  have HC3 := hideT' (specRedexesIn_any (ndsOf l) _ w2 hM2.nds hl2)
  obtain ⟨q, hq⟩ : ∃ q, q = RedB (ndsOf l) := ⟨_, rfl⟩
  obtain ⟨L, hL⟩ : ∃ L, L = RedL (ndsOf l) := ⟨_, rfl⟩
  have hLl : L.length ≤ 1048576 := by rw [hL]; exact RedL_len _
  have HQ := hideT' (And.intro hq hL)
  clear hM2 hq hL
  go_wp2_with fail
  refine HC3.out.mono ?_
  rintro e w3 ⟨⟨u1, rfl, hO1⟩, hB3⟩
  rw [← HQ.out.1]
  rw [← HQ.out.2] at hO1
  have hT3 := hB2.trans (hB3.mono hB2.size)
  have hs2 := hB2.size
  have HO1 := hideT' hO1
  have HU1 : Hid (∀ g, u1.ownBlock = some g → g < w3.heap.size) := fun g e => (hO1.lt g e).2
  have HC4 := hideT' (toTermS_any l v w3 (HV.out.below hT3) hl1)
  clear hB3 hB2 hO1
  go_wp2_with fail
  refine HC4.out.mono ?_
  rintro e w4 ⟨⟨b4, rfl, hb4, hM4⟩, hB4⟩
  have hT4 := hT3.trans (hB4.mono hT3.size)
  have HC5 := hideT' (implRedexesIn_any (ndsOf l) _ w4 hM4.nds hl2)
  have HM4 := hideT' hM4
  have hl4 := hM4.lt
  have HO14 := hideT' (OwnR.below (l := L) HO1.out hB4 (Nat.le_refl _))
  have hs34 := hB4.size
  clear hM4 hB4
  go_wp2_with fail
  refine HC5.out.mono ?_
  rintro e w5 ⟨⟨u2, rfl, hO2⟩, hB5⟩
  rw [← HQ.out.1]
  rw [← HQ.out.2] at hO2
  have hT5 := hT4.trans (hB5.mono hT4.size)
  have hs45 := hB5.size
  have HM5 := hideT' (HM4.out.below hB5 hl4)
  have HU2 : Hid (∀ g, u2.ownBlock = some g → w4.heap.size ≤ g) := fun g e => (hO2.lt g e).1
  have HO2 := hideT' hO2
  have HO15 := hideT' (OwnR.below (l := L) HO14.out hB5 (Nat.le_refl _))
  have hqq : (q != q) = false := by cases q <;> rfl
  have HE1 := hideT' (eqIntS_in u2 u1 L w5 hLl (OwnR.inR (l := L) HO2.out intL_len) (OwnR.inR (l := L) HO15.out intL_len))
  clear hB5 hO2
  go_wp2_with fail
  refine HE1.out.mono ?_
  rintro e w6 ⟨rfl, hB6⟩
  have hT6 := hT5.trans (hB6.mono hT5.size)
  have hs56 := hB6.size
  have HM6 := hideT' (HM5.out.below hB6 HM5.out.lt)
  have HO16 := hideT' (OwnR.below (l := L) HO15.out hB6 (Nat.le_refl _))
  have HO26 := hideT' (OwnR.below (l := L) HO2.out hB6 (Nat.le_refl _))
  have HC6 := hideT' (toTermS_any l v w6 (HV.out.below hT6) hl1)
  clear hB6
  go_wp2_with fail
  refine HC6.out.mono ?_
  rintro e w7 ⟨⟨b7, rfl, hb7, hM7⟩, hB7⟩
  have hT7 := hT6.trans (hB7.mono hT6.size)
  have hs67 := hB7.size
  have HM7 := hideT' (HM6.out.below hB7 HM6.out.lt)
  have HO17 := hideT' (OwnR.below (l := L) HO16.out hB7 (Nat.le_refl _))
  have HO27 := hideT' (OwnR.below (l := L) HO26.out hB7 (Nat.le_refl _))
  have HC7 := hideT' (eqTermS_in (slR b4 l) (slR b7 l) l w7 hl1 (HM7.out.inR termL_len) (hM7.inR termL_len))
  clear hM7 hB7
  go_wp2_with fail
  refine HC7.out.mono ?_
  rintro e w8 ⟨rfl, hB8⟩
  have hT8 := hT7.trans (hB8.mono hT7.size)
  have hs78 := hB8.size
  have HM8 := hideT' (HM7.out.below hB8 HM7.out.lt)
  have HO18 := hideT' (OwnR.below (l := L) HO17.out hB8 (Nat.le_refl _))
  have HO28 := hideT' (OwnR.below (l := L) HO27.out hB8 (Nat.le_refl _))
  have HC8 := hideT' (markTermS_own (slR b4 l) l.length _ 1 w3.heap.size w8 (by omega) (by omega) (HM8.out.own termL_len hb4 (by unfold maxLen; omega)))
  obtain ⟨M, hM⟩ : ∃ M : Int, M = 1 + 3 * (l.length : Int) := ⟨_, rfl⟩
  have hMn : ¬ M < 0 := by omega
  have HMM := hideT' hM
  clear hB8 hM
  go_wp2_with fail
  refine HC8.out.mono ?_
  rintro e w9 ⟨rfl, _, hg9⟩
  rw [← HMM.out]
  have hs89 := hg9.size
  have hT9 : Below w1.heap.size w1 w9 := hT8.grown hg9 hT8.size (fun k e => by simp only [Value.ownBlock] at e; injection e with e; have := hT3.size; omega)
  have HO19 := hideT' (show OwnR w9 w2.heap.size u1 3 intL 1 L from own_keep' HO18.out hg9 (fun g e h => by simp only [Value.ownBlock] at h; injection h with h; have := HU1.out g e; omega))
  have HO29 := hideT' (show OwnR w9 w4.heap.size u2 3 intL 1 L from own_keep' HO28.out hg9 (fun g e h => by simp only [Value.ownBlock] at h; injection h with h; have := HU2.out g e; omega))
  have HE2 := hideT' (eqIntS_in u2 u1 L w9 hLl (OwnR.inR (l := L) HO29.out intL_len) (OwnR.inR (l := L) HO19.out intL_len))
  clear hg9
  go_wp2_with fail
  refine HE2.out.mono ?_
  rintro e w10 ⟨rfl, hB10⟩
  have hT10 := hT9.trans (hB10.mono hT9.size)
  have hs910 := hB10.size
  have HO110 := hideT' (OwnR.below (l := L) HO19.out hB10 (Nat.le_refl _))
  have HO210 := hideT' (OwnR.below (l := L) HO29.out hB10 (Nat.le_refl _))
  have HC9 := hideT' (markIntS_own u2 L.length _ 1 w4.heap.size w10 (by omega) (by omega) HO210.out)
  obtain ⟨N, hN⟩ : ∃ N : Int, N = 1 + (L.length : Int) := ⟨_, rfl⟩
  have hNn : ¬ N < 0 := by omega
  have HN := hideT' hN
  clear hN hB10
  go_wp2_with fail
  refine HC9.out.mono ?_
  rintro e w11 ⟨rfl, hO11, hg11⟩
  rw [← HN.out]
  have hs1011 := hg11.size
  have hT11 : Below w1.heap.size w1 w11 := hT10.grown hg11 hT10.size (fun k e => by have := HU2.out k e; have := hT4.size; omega)
  have HI1 := hideT' (OwnR.inR (l := L) (show OwnR w11 w2.heap.size u1 3 intL 1 L from own_keep' HO110.out hg11 (fun g e h => by have := HU1.out g e; have := HU2.out g h.symm; omega)) intL_len)
  have HI2 := hideT' (OwnR.inR (l := markL markInt 1 1 L.length) hO11 intL_len)
  have HC10 := hideT' (heldIntS_in u2 L.length 1 w11 (by omega) (by omega) HI2.out)
  clear hg11 hO11
  go_wp2_with fail
  refine HC10.out.mono ?_
  rintro e w12 ⟨rfl, hB12⟩
  rw [← HN.out]
  have hT12 := hT11.trans (hB12.mono hT11.size)
  have HI1b := hideT' (HI1.out.below hB12)
  have HI2b := hideT' (HI2.out.below hB12)
  have HC11 := hideT' (toTermS_any l v w12 (HV.out.below hT12) hl1)
  have hNN : (N != N) = false := by simp
  clear hB12
  go_wp2_with fail
  refine HC11.out.mono ?_
  rintro e w13 ⟨⟨b13, rfl, hb13, hM13⟩, hB13⟩
  have hT13 := hT12.trans (hB13.mono hT12.size)
  have HI1c := hideT' (HI1b.out.below hB13)
  have HI2c := hideT' (HI2b.out.below hB13)
  have HC12 := hideT' (implRedexesIn_any (ndsOf l) _ w13 hM13.nds hl2)
  clear hB13 hM13
  go_wp2_with fail
  refine HC12.out.mono ?_
  rintro e w14 ⟨⟨u3, rfl, hO3⟩, hB14⟩
  rw [← HQ.out.1]
  rw [← HQ.out.2] at hO3
  have hT14 := hT13.trans (hB14.mono hT13.size)
  have HI1d := hideT' (HI1c.out.below hB14)
  have HI2d := hideT' (HI2c.out.below hB14)
  have HC13 := hideT' (eqIntS_in u3 u1 L w14 hLl (OwnR.inR (l := L) hO3 intL_len) HI1d.out)
  clear hB14 hO3
  go_wp2_with fail
  refine HC13.out.mono ?_
  rintro e w15 ⟨rfl, hB15⟩
  have hT15 := hT14.trans (hB15.mono hT14.size)
  have HC14 := hideT' (heldIntS_in u2 L.length 1 w15 (by omega) (by omega) (HI2d.out.below hB15))
  clear hB15
  go_wp2_with fail
  refine HC14.out.mono ?_
  rintro e w16 ⟨rfl, hB16⟩
  rw [← HN.out]
  have hT16 := hT15.trans (hB16.mono hT15.size)
  go_wp2
  go_ret
  exact ⟨rfl, hT16⟩

set_option maxRecDepth 100000 in
theorem lifted (os : Os) (started : os.Started) (H : Type) (enc : TypeId × Value → H) :
    ReturnsInHanded {} Try.checked os 4 .any (Rows.fnExactRedexesInSpec.pre6 enc Try.prog Try.f4 Rows.fnExactRedexesInRow.domain false) (Rows.fnExactRedexesInSpec.post enc Try.prog Try.f4 false true false false) := by
  refine returnsInHanded_of_change (C := Try.checked) own started (by kernel_rfl) Try.func4
    (ChangeSpec.witness6 (enc := enc) (C := Try.checked) false ⟨#[], #[.slice none 0 0], []⟩ 8 (by kernel_rfl) (by kernel_rfl) (by kernel_rfl) (by kernel_rfl)) ?_
  intro W base args ds gs before hval0 hW hcnd _
  have hval : ∀ (j : Nat) t v, Try.f4.params[j]? = some t → args[j]? = some v → Value.okWide Try.prog W .any base t v := hval0
  have hW' := hW
  obtain ⟨p, q, hA0, hV, rfl, hfz, hnd⟩ := hW
  have hA : DataW.TrodAll enc Try.prog W 0 (fun _ => true) true Try.f4.params.toList args.toList ds p := hA0
  rw [Try.params4] at hA hval
  obtain ⟨v0, vs0, d0, ds0, p0, q0, hargs, rfl, rfl, h0, r0⟩ := trodAll_cons hA
  obtain ⟨rfl, rfl, rfl⟩ := trodAll_nil r0
  obtain rfl : args = #[v0] := by cases args; simp_all
  obtain ⟨rfl, rfl⟩ := trodVars_none hV
  obtain ⟨l0, g0, s0⟩ := open_terms (hval 0 22 v0 rfl rfl) h0
  clear hA0 hval0
  simp only [List.append_nil] at hW'
  have lt0 : ∀ x ∈ p0, x.block < W.heap.size := fun x hx => hW'.lt x (by simp [hx])
  refine (walk l0 v0 W g0 s0).mono fun e W' ⟨he, bel⟩ => ?_
  subst he
  exact ⟨_, rfl, _, _, _, [], _, [], hW', (trodAll_cons_mk (shut_bool Try.underlying4 _) trodAll_mk0), (trodAll_cons_mk (Below.trod laidOutR (by kernel_rfl) (of_decide_eq_true (by kernel_rfl)) h0 bel lt0) trodAll_mk0), rfl, bel.frame _, fun h => by cases h⟩

theorem over : Rows.fnExactRedexesInRow.holds Try.pinned (OpenSpec.ofChange Rows.fnExactRedexesInSpec) :=
  OpenClaim.holds_of_wide 4 Try.f4 rfl rfl rfl rfl rfl rfl rfl ⟨rfl, rfl, rfl, rfl, rfl⟩ rfl rfl rfl rfl rfl (by kernel_rfl) Try.func4 (by kernel_rfl)
    (of_decide_eq_true (by kernel_rfl)) (by unfold Func.isWrapper; first | (rw [if_pos (by decide +kernel)]; kernel_rfl) | (rw [if_neg (by decide +kernel)]; exact ⟨rfl, rfl⟩))
    (fun os started H enc _ => lifted os started H enc)

end Go.Proofs.Ytnnhedncdpfiaaa.fnExactRedexesIn

namespace Go.Proofs.Ytnnhedncdpfiaaa
theorem redexesIn_holds : Rows.FnExactRedexesInSaid := fnExactRedexesIn.over
#print axioms redexesIn_holds
end Go.Proofs.Ytnnhedncdpfiaaa
