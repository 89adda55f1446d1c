/-
  Proved: for all arguments that can be read, laws.FnExactNormalComb answers true (NormalComb answers as its model, and its answer owns its memory), and its arguments read behind the call as before.
  No condition but the row's own. The frame is the one that the guide's program wrote.
-/
import Derived.Test.YtnnhedncdpfiaaaRows
import Derived.Test.YtnnhedncdpfiaaaCbNormT
import Derived.Test.YtnnhedncdpfiaaaTailStepCombA
import Derived.Test.YtnnhedncdpfiaaaMarkInt
import Derived.WalkKit
import Derived.ProofKit
import Derived.OpenShut
import Derived.ShutString
import Derived.ChangeOld
import Derived.Below
import Derived.Carry
namespace Go.Proofs.Ytnnhedncdpfiaaa.CB.fnExactNormalComb
open Go.ChangeShapes Go.WideShapes Go.ChangeAt Go.RowKit
open Go.ChangeMaps (open_string shut_string)
set_option linter.unusedVariables false

theorem own : ownKnob Try.prog.godebug = none := by kernel_rfl

set_option maxHeartbeats 16000000 in
set_option maxRecDepth 100000 in
theorem walk (l0 : List (Int × Int × Int)) (i1 : Int) (v0 : Value) (w : World) (hv0 : SlR w v0 combL 3 l0) (hm0 : l0.length ≤ maxLen) :
    Calls Try.prog 9 #[v0, .int .i64 i1] w fun e w' => e = .returned (.bool true) ∧ Below w.heap.size w w' := by
  have HV0 := hideT' hv0
  clear hv0
  have hT0 := Below.refl w.heap.size w
  go_enter Try.func9, Try.ntmps9
  have HZ0 := hideT' (szCombS_any l0 v0 1048576 w HV0.out (by omega) (by omega) hm0)
  go_wp2_with fail
  refine HZ0.out.mono ?_
  rintro e w' ⟨⟨r0, rfl, hr0⟩, hw'⟩
  rw [hw']
  clear hw'
  rcases hr0 with rfl | ⟨hr00, hr01, hlen0⟩
  · go_wp2
    go_ret
    exact ⟨rfl, hT0⟩
  have hrn0 : ¬ r0 < 0 := by omega
  have hl0 : l0.length ≤ 1048576 := by omega
  have hn0 : (ndsOf l0).length ≤ 1048576 := by rw [ndsOf_len]; exact hl0
  obtain ⟨q, hq⟩ : ∃ q, q = toldB (NmT (ndsOf l0) i1) := ⟨_, rfl⟩
  obtain ⟨L, hL⟩ : ∃ L, L = toldL (NmT (ndsOf l0) i1) := ⟨_, rfl⟩
  have hLl : L.length ≤ 1048576 := by rw [hL]; exact toldL_len _
  obtain ⟨nn, hnn⟩ : ∃ nn, nn = NmTN (ndsOf l0) i1 := ⟨_, rfl⟩
  have HQ := hideT' (And.intro hq (And.intro hL hnn))
  clear hq hL hnn
  have hnb : (nn != nn) = false := by simp
  have hqq : (q != q) = false := by cases q <;> rfl
  have HC1 := hideT' (toCombS_any l0 v0 w (HV0.out.below hT0) hl0)
  go_wp2_with fail
  refine HC1.out.mono ?_
  rintro e w2 ⟨⟨b3, rfl, hb4, hM5⟩, hB6⟩
  have hT7 := hT0.trans (hB6.mono hT0.size)
  have hs8 := hB6.size
  have HM9 := hideT' hM5
  have hltb3 := hM5.lt
  clear hM5 hB6
  have HC10 := hideT' (specNormalComb_any (ndsOf l0) i1 _ w2 (Go.Proofs.Ytnnhedncdpfiaaa.CB.RecAt.nds HM9.out) hn0)
  go_wp2_with fail
  refine HC10.out.mono ?_
  rintro e w11 ⟨⟨u13, rfl, hO14⟩, hB12⟩
  rw [← HQ.out.1, ← HQ.out.2.2]
  rw [← HQ.out.2.1] at hO14
  have hT15 := hT7.trans (hB12.mono hT7.size)
  have hs16 := hB12.size
  have HH17 := hideT' (HM9.out.below hB12 HM9.out.lt)
  have HO18 := hideT' hO14
  have HU19 : Hid (∀ g, u13.ownBlock = some g → w2.heap.size ≤ g ∧ g < w11.heap.size) := fun g e => hO14.lt g e
  clear hO14 hB12
  have HC20 := hideT' (toCombS_any l0 v0 w11 (HV0.out.below hT15) hl0)
  go_wp2_with fail
  refine HC20.out.mono ?_
  rintro e w21 ⟨⟨b22, rfl, hb23, hM24⟩, hB25⟩
  have hT26 := hT15.trans (hB25.mono hT15.size)
  have hs27 := hB25.size
  have HH28 := hideT' (OwnR.below (l := L) HO18.out hB25 (Nat.le_refl _))
  have HM29 := hideT' hM24
  have hltb22 := hM24.lt
  clear hM24 hB25
  have HC30 := hideT' (implNormalComb_any (ndsOf l0) i1 _ w21 (Go.Proofs.Ytnnhedncdpfiaaa.CB.RecAt.nds HM29.out) hn0)
  go_wp2_with fail
  refine HC30.out.mono ?_
  rintro e w31 ⟨⟨u33, rfl, hO34⟩, hB32⟩
  rw [← HQ.out.1, ← HQ.out.2.2]
  rw [← HQ.out.2.1] at hO34
  have hT35 := hT26.trans (hB32.mono hT26.size)
  have hs36 := hB32.size
  have HH37 := hideT' (OwnR.below (l := L) HH28.out hB32 (Nat.le_refl _))
  have HH38 := hideT' (HM29.out.below hB32 HM29.out.lt)
  have HO39 := hideT' hO34
  have HU40 : Hid (∀ g, u33.ownBlock = some g → w21.heap.size ≤ g ∧ g < w31.heap.size) := fun g e => hO34.lt g e
  clear hO34 hB32
  have HC41 := hideT' (eqCombS_in u33 u13 L w31 hLl (OwnR.inR (l := L) HO39.out combL_len) (OwnR.inR (l := L) HH37.out combL_len))
  go_wp2_with fail
  refine HC41.out.mono ?_
  rintro e w42 ⟨rfl, hB43⟩
  have hT44 := hT35.trans (hB43.mono hT35.size)
  have hs45 := hB43.size
  have HH46 := hideT' (OwnR.below (l := L) HH37.out hB43 (Nat.le_refl _))
  have HH47 := hideT' (HH38.out.below hB43 HH38.out.lt)
  have HH48 := hideT' (OwnR.below (l := L) HO39.out hB43 (Nat.le_refl _))
  clear hB43
  have HC49 := hideT' (toCombS_any l0 v0 w42 (HV0.out.below hT44) hl0)
  go_wp2_with fail
  refine HC49.out.mono ?_
  rintro e w50 ⟨⟨b51, rfl, hb52, hM53⟩, hB54⟩
  have hT55 := hT44.trans (hB54.mono hT44.size)
  have hs56 := hB54.size
  have HH57 := hideT' (OwnR.below (l := L) HH46.out hB54 (Nat.le_refl _))
  have HH58 := hideT' (HH47.out.below hB54 HH47.out.lt)
  have HH59 := hideT' (OwnR.below (l := L) HH48.out hB54 (Nat.le_refl _))
  have HM60 := hideT' hM53
  have hltb51 := hM53.lt
  clear hM53 hB54
  have HC61 := hideT' (eqCombS_in (slR b22 l0) (slR b51 l0) l0 w50 hl0 (HH58.out.inR combL_len) (HM60.out.inR combL_len))
  go_wp2_with fail
  refine HC61.out.mono ?_
  rintro e w62 ⟨rfl, hB63⟩
  have hT64 := hT55.trans (hB63.mono hT55.size)
  have hs65 := hB63.size
  have HH66 := hideT' (OwnR.below (l := L) HH57.out hB63 (Nat.le_refl _))
  have HH67 := hideT' (HH58.out.below hB63 HH58.out.lt)
  have HH68 := hideT' (OwnR.below (l := L) HH59.out hB63 (Nat.le_refl _))
  have HH69 := hideT' (HM60.out.below hB63 HM60.out.lt)
  clear hB63
  have HC70 := hideT' (markCombS_own (slR b22 l0) l0.length _ 1 w11.heap.size w62 (by omega) (by omega) (HH67.out.own combL_len hb23 (by unfold maxLen; omega)))
  obtain ⟨M73, hM73⟩ : ∃ M73 : Int, M73 = 1 + 3 * (l0.length : Int) := ⟨_, rfl⟩
  have hM73n : ¬ M73 < 0 := by omega
  have hM73p : 0 < M73 ∧ M73 ≤ 8000000 := by omega
  have HN74 := hideT' hM73
  clear hM73
  go_wp2_with fail
  refine HC70.out.mono ?_
  rintro e w71 ⟨rfl, _, hg72⟩
  rw [← HN74.out]
  have hs75 := hg72.size
  have hT76 : Below w.heap.size w w71 := hT64.grown hg72 hT64.size (fun k e => by simp only [Value.ownBlock] at e; injection e with e; omega)
  have HH77 := hideT' (show OwnR w71 w2.heap.size u13 64 combL 3 L from own_keep' HH66.out hg72 (fun g e h => by simp only [Value.ownBlock] at h; injection h with h; have := HU19.out g e; omega))
  have HH78 := hideT' (show OwnR w71 w21.heap.size u33 64 combL 3 L from own_keep' HH68.out hg72 (fun g e h => by simp only [Value.ownBlock] at h; injection h with h; have := HU40.out g e; omega))
  clear hg72
  have HC79 := hideT' (eqCombS_in u33 u13 L w71 hLl (OwnR.inR (l := L) HH78.out combL_len) (OwnR.inR (l := L) HH77.out combL_len))
  go_wp2_with fail
  refine HC79.out.mono ?_
  rintro e w80 ⟨rfl, hB81⟩
  have hT82 := hT76.trans (hB81.mono hT76.size)
  have hs83 := hB81.size
  have HH84 := hideT' (OwnR.below (l := L) HH77.out hB81 (Nat.le_refl _))
  have HH85 := hideT' (OwnR.below (l := L) HH78.out hB81 (Nat.le_refl _))
  clear hB81
  have HC86 := hideT' (markCombS_own u33 L.length _ 1 w21.heap.size w80 (by omega) (by omega) HH85.out)
  obtain ⟨N, hN⟩ : ∃ N : Int, N = 1 + 3 * (L.length : Int) := ⟨_, rfl⟩
  have hNn : ¬ N < 0 := by omega
  have HN := hideT' hN
  clear hN
  go_wp2_with fail
  refine HC86.out.mono ?_
  rintro e w87 ⟨rfl, hO89, hg88⟩
  rw [← HN.out]
  have hs90 := hg88.size
  have hT91 : Below w.heap.size w w87 := hT82.grown hg88 hT82.size (fun k e => by have := HU40.out k e; omega)
  have HI1 := hideT' (OwnR.inR (l := L) (show OwnR w87 w2.heap.size u13 64 combL 3 L from own_keep' HH84.out hg88 (fun g e h => by have := HU19.out g e; have := HU40.out g h.symm; omega)) combL_len)
  have HI2 := hideT' (OwnR.inR (l := markL markComb 3 1 L.length) hO89 combL_len)
  clear hg88 hO89
  have hNN : (N != N) = false := by simp
  have HC92 := hideT' (heldCombS_in u33 L.length 1 w87 (by omega) (by omega) HI2.out)
  go_wp2_with fail
  refine HC92.out.mono ?_
  rintro e w93 ⟨rfl, hB94⟩
  rw [← HN.out]
  have hT95 := hT91.trans (hB94.mono hT91.size)
  have hs96 := hB94.size
  have HH97 := hideT' (HI1.out.below hB94)
  have HH98 := hideT' (HI2.out.below hB94)
  clear hB94
  have HC99 := hideT' (toCombS_any l0 v0 w93 (HV0.out.below hT95) hl0)
  go_wp2_with fail
  refine HC99.out.mono ?_
  rintro e w100 ⟨⟨b101, rfl, hb102, hM103⟩, hB104⟩
  have hT105 := hT95.trans (hB104.mono hT95.size)
  have hs106 := hB104.size
  have HH107 := hideT' (HH97.out.below hB104)
  have HH108 := hideT' (HH98.out.below hB104)
  have HM109 := hideT' hM103
  have hltb101 := hM103.lt
  clear hM103 hB104
  have HC110 := hideT' (implNormalComb_any (ndsOf l0) i1 _ w100 (Go.Proofs.Ytnnhedncdpfiaaa.CB.RecAt.nds HM109.out) hn0)
  go_wp2_with fail
  refine HC110.out.mono ?_
  rintro e w111 ⟨⟨u113, rfl, hO114⟩, hB112⟩
  rw [← HQ.out.1, ← HQ.out.2.2]
  rw [← HQ.out.2.1] at hO114
  have hT115 := hT105.trans (hB112.mono hT105.size)
  have hs116 := hB112.size
  have HH117 := hideT' (HH107.out.below hB112)
  have HH118 := hideT' (HH108.out.below hB112)
  have HH119 := hideT' (HM109.out.below hB112 HM109.out.lt)
  have HO120 := hideT' hO114
  have HU121 : Hid (∀ g, u113.ownBlock = some g → w100.heap.size ≤ g ∧ g < w111.heap.size) := fun g e => hO114.lt g e
  clear hO114 hB112
  have HC122 := hideT' (eqCombS_in u113 u13 L w111 hLl (OwnR.inR (l := L) HO120.out combL_len) HH117.out)
  go_wp2_with fail
  refine HC122.out.mono ?_
  rintro e w123 ⟨rfl, hB124⟩
  have hT125 := hT115.trans (hB124.mono hT115.size)
  have hs126 := hB124.size
  have HH127 := hideT' (HH117.out.below hB124)
  have HH128 := hideT' (HH118.out.below hB124)
  have HH129 := hideT' (OwnR.below (l := L) HO120.out hB124 (Nat.le_refl _))
  clear hB124
  have HC130 := hideT' (heldCombS_in u33 L.length 1 w123 (by omega) (by omega) HH128.out)
  go_wp2_with fail
  refine HC130.out.mono ?_
  rintro e w131 ⟨rfl, hB132⟩
  rw [← HN.out]
  have hT133 := hT125.trans (hB132.mono hT125.size)
  have hs134 := hB132.size
  have HH135 := hideT' (HH127.out.below hB132)
  have HH136 := hideT' (HH128.out.below hB132)
  clear hB132
  go_wp2
  go_ret
  exact ⟨rfl, hT133⟩

set_option maxRecDepth 100000 in
theorem lifted (os : Os) (started : os.Started) (H : Type) (enc : TypeId × Value → H) :
    ReturnsInHanded {} Try.checked os 9 .any (Rows.fnExactNormalCombSpec.pre6 enc Try.prog Try.f9 Rows.fnExactNormalCombRow.domain false) (Rows.fnExactNormalCombSpec.post enc Try.prog Try.f9 false true false false) := by
  refine returnsInHanded_of_change (C := Try.checked) own started (by kernel_rfl) Try.func9
    (ChangeSpec.witness6 (enc := enc) (C := Try.checked) false ⟨#[], #[.slice none 0 0, .int .i64 0], []⟩ 8 (by kernel_rfl) (by kernel_rfl) (by kernel_rfl) (by kernel_rfl)) ?_
  intro W base args ds gs before hval0 hW hcnd _
  have hval : ∀ (j : Nat) t v, Try.f9.params[j]? = some t → args[j]? = some v → Value.okWide Try.prog W .any base t v := hval0
  have hW' := hW
  obtain ⟨p, q, hA0, hV, rfl, hfz, hnd⟩ := hW
  have hA : DataW.TrodAll enc Try.prog W 0 (fun _ => true) true Try.f9.params.toList args.toList ds p := hA0
  rw [Try.params9] at hA hval
  obtain ⟨v0, vs0, d0, ds0, p0, q0, hargs, rfl, rfl, h0, r0⟩ := trodAll_cons hA
  obtain ⟨v1, vs1, d1, ds1, p1, q1, rfl, rfl, rfl, h1, r1⟩ := trodAll_cons r0
  obtain ⟨rfl, rfl, rfl⟩ := trodAll_nil r1
  obtain rfl : args = #[v0, v1] := by cases args; simp_all
  obtain ⟨rfl, rfl⟩ := trodVars_none hV
  obtain ⟨l0, g0, s0⟩ := open_terms (hval 0 35 v0 rfl rfl) h0
  obtain ⟨j1, rfl, rfl, rfl, e1⟩ := open_int Try.underlying3 (hval 1 3 v1 rfl rfl) h1
  clear hA0 hval0
  simp only [List.append_nil] at hW'
  have lt0 : ∀ x ∈ p0, x.block < W.heap.size := fun x hx => hW'.lt x (by simp [hx])
  refine (walk l0 j1 v0 W g0 s0).mono fun e W' ⟨he, bel⟩ => ?_
  subst he
  exact ⟨_, rfl, _, _, _, [], _, [], hW', (trodAll_cons_mk (shut_bool Try.underlying4 _) trodAll_mk0), (trodAll_cons_mk (Below.trod laidOutR (by kernel_rfl) (of_decide_eq_true (by kernel_rfl)) h0 bel lt0) (trodAll_cons_mk (shut_int Try.underlying3 e1) trodAll_mk0)), rfl, bel.frame _, fun h => by cases h⟩

theorem over : Rows.fnExactNormalCombRow.holds Try.pinned (OpenSpec.ofChange Rows.fnExactNormalCombSpec) :=
  OpenClaim.holds_of_wide 9 Try.f9 rfl rfl rfl rfl rfl rfl rfl ⟨rfl, rfl, rfl, rfl, rfl⟩ rfl rfl rfl rfl rfl (by kernel_rfl) Try.func9 (by kernel_rfl)
    (of_decide_eq_true (by kernel_rfl)) (by unfold Func.isWrapper; first | (rw [if_pos (by decide +kernel)]; kernel_rfl) | (rw [if_neg (by decide +kernel)]; exact ⟨rfl, rfl⟩))
    (fun os started H enc _ => lifted os started H enc)

end Go.Proofs.Ytnnhedncdpfiaaa.CB.fnExactNormalComb

namespace Go.Proofs.Ytnnhedncdpfiaaa
theorem normalComb_holds : Rows.FnExactNormalCombSaid := CB.fnExactNormalComb.over
#print axioms normalComb_holds
end Go.Proofs.Ytnnhedncdpfiaaa
