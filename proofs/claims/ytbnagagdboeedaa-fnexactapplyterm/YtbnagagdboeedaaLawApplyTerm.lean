/-
  Proved: for all arguments that can be read, laws.FnExactApplyTerm answers true (ApplyTerm answers as its model, and its answer owns its memory), and its arguments read behind the call as before.
  No condition but the row's own. The frame is the one that the guide's program wrote.
-/
import Derived.Test.YtbnagagdboeedaaRows
import Derived.Test.YtbnagagdboeedaaTailRunPassedA
import Derived.Test.YtbnagagdboeedaaTailRunPassedC
import Derived.Test.YtbnagagdboeedaaTailRunPassedE
import Derived.Test.YtbnagagdboeedaaMarkInt
import Derived.WalkKit
import Derived.ProofKit
import Derived.OpenShut
import Derived.ShutString
import Derived.ChangeOld
import Derived.Below
import Derived.Carry
namespace Go.Proofs.Ytbnagagdboeedaa.fnExactApplyTerm
open Go.ChangeShapes Go.WideShapes Go.ChangeAt Go.RowKit
open Go.ChangeMaps (open_string shut_string)
set_option linter.unusedVariables false

theorem own : ownKnob Try.prog.godebug = none := by kernel_rfl

set_option maxHeartbeats 16000000 in
set_option maxRecDepth 100000 in
theorem walk (l0 : List (Int × Int × Int)) (l1 : List (Int × Int × Int)) (v0 : Value) (v1 : Value) (w : World) (hv0 : SlR w v0 termL 3 l0) (hv1 : SlR w v1 termL 3 l1) (hm0 : l0.length ≤ maxLen) (hm1 : l1.length ≤ maxLen) :
    Calls Try.prog 13 #[v0, v1] w fun e w' => e = .returned (.bool true) ∧ Below w.heap.size w w' := by
  have HV0 := hideT' hv0
  have HV1 := hideT' hv1
  clear hv0 hv1
  have hT0 := Below.refl w.heap.size w
  go_enter Try.func13, Try.ntmps13
  have HZ0 := hideT' (szTermS_any l0 v0 1048576 w HV0.out (by omega) (by omega) hm0)
  go_wp2_with fail
  refine HZ0.out.mono ?_
  rintro e w' ⟨⟨r0, rfl, hr0⟩, hw'⟩
  rw [hw']
  clear hw'
  rcases hr0 with rfl | ⟨hr00, hr01, hlen0⟩
  · go_wp2
    go_ret
    exact ⟨rfl, hT0⟩
  have hrn0 : ¬ r0 < 0 := by omega
  have hl0 : l0.length ≤ 1048576 := by omega
  have hn0 : (ndsOf l0).length ≤ 1048576 := by rw [ndsOf_len]; exact hl0
  have HZ1 := hideT' (szTermS_any l1 v1 r0 w HV1.out (by omega) (by omega) hm1)
  go_wp2_with fail
  refine HZ1.out.mono ?_
  rintro e w' ⟨⟨r1, rfl, hr1⟩, hw'⟩
  rw [hw']
  clear hw'
  rcases hr1 with rfl | ⟨hr10, hr11, hlen1⟩
  · go_wp2
    go_ret
    exact ⟨rfl, hT0⟩
  have hrn1 : ¬ r1 < 0 := by omega
  have hl1 : l1.length ≤ 1048576 := by omega
  have hn1 : (ndsOf l1).length ≤ 1048576 := by rw [ndsOf_len]; exact hl1
  obtain ⟨q, hq⟩ : ∃ q, q = toldB (ApT (ndsOf l0) (ndsOf l1)) := ⟨_, rfl⟩
  obtain ⟨L, hL⟩ : ∃ L, L = toldL (ApT (ndsOf l0) (ndsOf l1)) := ⟨_, rfl⟩
  have hLl : L.length ≤ 1048576 := by rw [hL]; exact toldL_len _
  have HQ := hideT' (And.intro hq hL)
  clear hq hL
  have hqq : (q != q) = false := by cases q <;> rfl
  have HC1 := hideT' (toTermS_any l0 v0 w (HV0.out.below hT0) hl0)
  go_wp2_with fail
  refine HC1.out.mono ?_
  rintro e w2 ⟨⟨b3, rfl, hb4, hM5⟩, hB6⟩
  have hT7 := hT0.trans (hB6.mono hT0.size)
  have hs8 := hB6.size
  have HM9 := hideT' hM5
  have hltb3 := hM5.lt
  clear hM5 hB6
  have HC10 := hideT' (toTermS_any l1 v1 w2 (HV1.out.below hT7) hl1)
  go_wp2_with fail
  refine HC10.out.mono ?_
  rintro e w11 ⟨⟨b12, rfl, hb13, hM14⟩, hB15⟩
  have hT16 := hT7.trans (hB15.mono hT7.size)
  have hs17 := hB15.size
  have HH18 := hideT' (HM9.out.below hB15 HM9.out.lt)
  have HM19 := hideT' hM14
  have hltb12 := hM14.lt
  clear hM14 hB15
  have HC20 := hideT' (specApplyTerm_any (ndsOf l0) (ndsOf l1) _ _ w11 (Go.Proofs.Ytbnagagdboeedaa.RecAt.nds HH18.out) (Go.Proofs.Ytbnagagdboeedaa.RecAt.nds HM19.out) hn0 hn1)
  go_wp2_with fail
  refine HC20.out.mono ?_
  rintro e w21 ⟨⟨u23, rfl, hO24⟩, hB22⟩
  rw [← HQ.out.1]
  rw [← HQ.out.2] at hO24
  have hT25 := hT16.trans (hB22.mono hT16.size)
  have hs26 := hB22.size
  have HH27 := hideT' (HH18.out.below hB22 HH18.out.lt)
  have HH28 := hideT' (HM19.out.below hB22 HM19.out.lt)
  have HO29 := hideT' hO24
  have HU30 : Hid (∀ g, u23.ownBlock = some g → w11.heap.size ≤ g ∧ g < w21.heap.size) := fun g e => hO24.lt g e
  clear hO24 hB22
  have HC31 := hideT' (toTermS_any l0 v0 w21 (HV0.out.below hT25) hl0)
  go_wp2_with fail
  refine HC31.out.mono ?_
  rintro e w32 ⟨⟨b33, rfl, hb34, hM35⟩, hB36⟩
  have hT37 := hT25.trans (hB36.mono hT25.size)
  have hs38 := hB36.size
  have HH39 := hideT' (OwnR.below (l := L) HO29.out hB36 (Nat.le_refl _))
  have HM40 := hideT' hM35
  have hltb33 := hM35.lt
  clear hM35 hB36
  have HC41 := hideT' (toTermS_any l1 v1 w32 (HV1.out.below hT37) hl1)
  go_wp2_with fail
  refine HC41.out.mono ?_
  rintro e w42 ⟨⟨b43, rfl, hb44, hM45⟩, hB46⟩
  have hT47 := hT37.trans (hB46.mono hT37.size)
  have hs48 := hB46.size
  have HH49 := hideT' (OwnR.below (l := L) HH39.out hB46 (Nat.le_refl _))
  have HH50 := hideT' (HM40.out.below hB46 HM40.out.lt)
  have HM51 := hideT' hM45
  have hltb43 := hM45.lt
  clear hM45 hB46
  have HC52 := hideT' (implApplyTerm_any (ndsOf l0) (ndsOf l1) _ _ w42 (Go.Proofs.Ytbnagagdboeedaa.RecAt.nds HH50.out) (Go.Proofs.Ytbnagagdboeedaa.RecAt.nds HM51.out) hn0 hn1)
  go_wp2_with fail
  refine HC52.out.mono ?_
  rintro e w53 ⟨⟨u55, rfl, hO56⟩, hB54⟩
  rw [← HQ.out.1]
  rw [← HQ.out.2] at hO56
  have hT57 := hT47.trans (hB54.mono hT47.size)
  have hs58 := hB54.size
  have HH59 := hideT' (OwnR.below (l := L) HH49.out hB54 (Nat.le_refl _))
  have HH60 := hideT' (HH50.out.below hB54 HH50.out.lt)
  have HH61 := hideT' (HM51.out.below hB54 HM51.out.lt)
  have HO62 := hideT' hO56
  have HU63 : Hid (∀ g, u55.ownBlock = some g → w42.heap.size ≤ g ∧ g < w53.heap.size) := fun g e => hO56.lt g e
  clear hO56 hB54
  have HC64 := hideT' (eqTermS_in u55 u23 L w53 hLl (OwnR.inR (l := L) HO62.out termL_len) (OwnR.inR (l := L) HH59.out termL_len))
  go_wp2_with fail
  refine HC64.out.mono ?_
  rintro e w65 ⟨rfl, hB66⟩
  have hT67 := hT57.trans (hB66.mono hT57.size)
  have hs68 := hB66.size
  have HH69 := hideT' (OwnR.below (l := L) HH59.out hB66 (Nat.le_refl _))
  have HH70 := hideT' (HH60.out.below hB66 HH60.out.lt)
  have HH71 := hideT' (HH61.out.below hB66 HH61.out.lt)
  have HH72 := hideT' (OwnR.below (l := L) HO62.out hB66 (Nat.le_refl _))
  clear hB66
  have HC73 := hideT' (toTermS_any l0 v0 w65 (HV0.out.below hT67) hl0)
  go_wp2_with fail
  refine HC73.out.mono ?_
  rintro e w74 ⟨⟨b75, rfl, hb76, hM77⟩, hB78⟩
  have hT79 := hT67.trans (hB78.mono hT67.size)
  have hs80 := hB78.size
  have HH81 := hideT' (OwnR.below (l := L) HH69.out hB78 (Nat.le_refl _))
  have HH82 := hideT' (HH70.out.below hB78 HH70.out.lt)
  have HH83 := hideT' (HH71.out.below hB78 HH71.out.lt)
  have HH84 := hideT' (OwnR.below (l := L) HH72.out hB78 (Nat.le_refl _))
  have HM85 := hideT' hM77
  have hltb75 := hM77.lt
  clear hM77 hB78
  have HC86 := hideT' (eqTermS_in (slR b33 l0) (slR b75 l0) l0 w74 hl0 (HH82.out.inR termL_len) (HM85.out.inR termL_len))
  go_wp2_with fail
  refine HC86.out.mono ?_
  rintro e w87 ⟨rfl, hB88⟩
  have hT89 := hT79.trans (hB88.mono hT79.size)
  have hs90 := hB88.size
  have HH91 := hideT' (OwnR.below (l := L) HH81.out hB88 (Nat.le_refl _))
  have HH92 := hideT' (HH82.out.below hB88 HH82.out.lt)
  have HH93 := hideT' (HH83.out.below hB88 HH83.out.lt)
  have HH94 := hideT' (OwnR.below (l := L) HH84.out hB88 (Nat.le_refl _))
  have HH95 := hideT' (HM85.out.below hB88 HM85.out.lt)
  clear hB88
  have HC96 := hideT' (toTermS_any l1 v1 w87 (HV1.out.below hT89) hl1)
  go_wp2_with fail
  refine HC96.out.mono ?_
  rintro e w97 ⟨⟨b98, rfl, hb99, hM100⟩, hB101⟩
  have hT102 := hT89.trans (hB101.mono hT89.size)
  have hs103 := hB101.size
  have HH104 := hideT' (OwnR.below (l := L) HH91.out hB101 (Nat.le_refl _))
  have HH105 := hideT' (HH92.out.below hB101 HH92.out.lt)
  have HH106 := hideT' (HH93.out.below hB101 HH93.out.lt)
  have HH107 := hideT' (OwnR.below (l := L) HH94.out hB101 (Nat.le_refl _))
  have HM108 := hideT' hM100
  have hltb98 := hM100.lt
  clear hM100 hB101
  have HC109 := hideT' (eqTermS_in (slR b43 l1) (slR b98 l1) l1 w97 hl1 (HH106.out.inR termL_len) (HM108.out.inR termL_len))
  go_wp2_with fail
  refine HC109.out.mono ?_
  rintro e w110 ⟨rfl, hB111⟩
  have hT112 := hT102.trans (hB111.mono hT102.size)
  have hs113 := hB111.size
  have HH114 := hideT' (OwnR.below (l := L) HH104.out hB111 (Nat.le_refl _))
  have HH115 := hideT' (HH105.out.below hB111 HH105.out.lt)
  have HH116 := hideT' (HH106.out.below hB111 HH106.out.lt)
  have HH117 := hideT' (OwnR.below (l := L) HH107.out hB111 (Nat.le_refl _))
  have HH118 := hideT' (HM108.out.below hB111 HM108.out.lt)
  clear hB111
  have HC119 := hideT' (markTermS_own (slR b33 l0) l0.length _ 1 w21.heap.size w110 (by omega) (by omega) (HH115.out.own termL_len hb34 (by unfold maxLen; omega)))
  obtain ⟨M122, hM122⟩ : ∃ M122 : Int, M122 = 1 + 3 * (l0.length : Int) := ⟨_, rfl⟩
  have hM122n : ¬ M122 < 0 := by omega
  have hM122p : 0 < M122 ∧ M122 ≤ 8000000 := by omega
  have HN123 := hideT' hM122
  clear hM122
  go_wp2_with fail
  refine HC119.out.mono ?_
  rintro e w120 ⟨rfl, _, hg121⟩
  rw [← HN123.out]
  have hs124 := hg121.size
  have hT125 : Below w.heap.size w w120 := hT112.grown hg121 hT112.size (fun k e => by simp only [Value.ownBlock] at e; injection e with e; omega)
  have HH126 := hideT' (show OwnR w120 w11.heap.size u23 57 termL 3 L from own_keep' HH114.out hg121 (fun g e h => by simp only [Value.ownBlock] at h; injection h with h; have := HU30.out g e; omega))
  have HH127 := hideT' (show RecAt w120 b43 57 termL l1 from RowAt.grown HH116.out hg121 (by simp only [Value.ownBlock]; intro e; injection e with e; omega))
  have HH128 := hideT' (show OwnR w120 w42.heap.size u55 57 termL 3 L from own_keep' HH117.out hg121 (fun g e h => by simp only [Value.ownBlock] at h; injection h with h; have := HU63.out g e; omega))
  clear hg121
  have HC129 := hideT' (markTermS_own (slR b43 l1) l1.length _ M122 w32.heap.size w120 (by omega) (by omega) (HH127.out.own termL_len hb44 (by unfold maxLen; omega)))
  obtain ⟨M132, hM132⟩ : ∃ M132 : Int, M132 = M122 + 3 * (l1.length : Int) := ⟨_, rfl⟩
  have hM132n : ¬ M132 < 0 := by omega
  have hM132p : 0 < M132 ∧ M132 ≤ 16000000 := by omega
  have HN133 := hideT' hM132
  clear hM132
  go_wp2_with fail
  refine HC129.out.mono ?_
  rintro e w130 ⟨rfl, _, hg131⟩
  rw [← HN133.out]
  have hs134 := hg131.size
  have hT135 : Below w.heap.size w w130 := hT125.grown hg131 hT125.size (fun k e => by simp only [Value.ownBlock] at e; injection e with e; omega)
  have HH136 := hideT' (show OwnR w130 w11.heap.size u23 57 termL 3 L from own_keep' HH126.out hg131 (fun g e h => by simp only [Value.ownBlock] at h; injection h with h; have := HU30.out g e; omega))
  have HH137 := hideT' (show OwnR w130 w42.heap.size u55 57 termL 3 L from own_keep' HH128.out hg131 (fun g e h => by simp only [Value.ownBlock] at h; injection h with h; have := HU63.out g e; omega))
  clear hg131
  have HC138 := hideT' (eqTermS_in u55 u23 L w130 hLl (OwnR.inR (l := L) HH137.out termL_len) (OwnR.inR (l := L) HH136.out termL_len))
  go_wp2_with fail
  refine HC138.out.mono ?_
  rintro e w139 ⟨rfl, hB140⟩
  have hT141 := hT135.trans (hB140.mono hT135.size)
  have hs142 := hB140.size
  have HH143 := hideT' (OwnR.below (l := L) HH136.out hB140 (Nat.le_refl _))
  have HH144 := hideT' (OwnR.below (l := L) HH137.out hB140 (Nat.le_refl _))
  clear hB140
  have HC145 := hideT' (markTermS_own u55 L.length _ 1 w42.heap.size w139 (by omega) (by omega) HH144.out)
  obtain ⟨N, hN⟩ : ∃ N : Int, N = 1 + 3 * (L.length : Int) := ⟨_, rfl⟩
  have hNn : ¬ N < 0 := by omega
  have HN := hideT' hN
  clear hN
  go_wp2_with fail
  refine HC145.out.mono ?_
  rintro e w146 ⟨rfl, hO148, hg147⟩
  rw [← HN.out]
  have hs149 := hg147.size
  have hT150 : Below w.heap.size w w146 := hT141.grown hg147 hT141.size (fun k e => by have := HU63.out k e; omega)
  have HI1 := hideT' (OwnR.inR (l := L) (show OwnR w146 w11.heap.size u23 57 termL 3 L from own_keep' HH143.out hg147 (fun g e h => by have := HU30.out g e; have := HU63.out g h.symm; omega)) termL_len)
  have HI2 := hideT' (OwnR.inR (l := markL markTerm 3 1 L.length) hO148 termL_len)
  clear hg147 hO148
  have hNN : (N != N) = false := by simp
  have HC151 := hideT' (heldTermS_in u55 L.length 1 w146 (by omega) (by omega) HI2.out)
  go_wp2_with fail
  refine HC151.out.mono ?_
  rintro e w152 ⟨rfl, hB153⟩
  rw [← HN.out]
  have hT154 := hT150.trans (hB153.mono hT150.size)
  have hs155 := hB153.size
  have HH156 := hideT' (HI1.out.below hB153)
  have HH157 := hideT' (HI2.out.below hB153)
  clear hB153
  have HC158 := hideT' (toTermS_any l0 v0 w152 (HV0.out.below hT154) hl0)
  go_wp2_with fail
  refine HC158.out.mono ?_
  rintro e w159 ⟨⟨b160, rfl, hb161, hM162⟩, hB163⟩
  have hT164 := hT154.trans (hB163.mono hT154.size)
  have hs165 := hB163.size
  have HH166 := hideT' (HH156.out.below hB163)
  have HH167 := hideT' (HH157.out.below hB163)
  have HM168 := hideT' hM162
  have hltb160 := hM162.lt
  clear hM162 hB163
  have HC169 := hideT' (toTermS_any l1 v1 w159 (HV1.out.below hT164) hl1)
  go_wp2_with fail
  refine HC169.out.mono ?_
  rintro e w170 ⟨⟨b171, rfl, hb172, hM173⟩, hB174⟩
  have hT175 := hT164.trans (hB174.mono hT164.size)
  have hs176 := hB174.size
  have HH177 := hideT' (HH166.out.below hB174)
  have HH178 := hideT' (HH167.out.below hB174)
  have HH179 := hideT' (HM168.out.below hB174 HM168.out.lt)
  have HM180 := hideT' hM173
  have hltb171 := hM173.lt
  clear hM173 hB174
  have HC181 := hideT' (implApplyTerm_any (ndsOf l0) (ndsOf l1) _ _ w170 (Go.Proofs.Ytbnagagdboeedaa.RecAt.nds HH179.out) (Go.Proofs.Ytbnagagdboeedaa.RecAt.nds HM180.out) hn0 hn1)
  go_wp2_with fail
  refine HC181.out.mono ?_
  rintro e w182 ⟨⟨u184, rfl, hO185⟩, hB183⟩
  rw [← HQ.out.1]
  rw [← HQ.out.2] at hO185
  have hT186 := hT175.trans (hB183.mono hT175.size)
  have hs187 := hB183.size
  have HH188 := hideT' (HH177.out.below hB183)
  have HH189 := hideT' (HH178.out.below hB183)
  have HH190 := hideT' (HH179.out.below hB183 HH179.out.lt)
  have HH191 := hideT' (HM180.out.below hB183 HM180.out.lt)
  have HO192 := hideT' hO185
  have HU193 : Hid (∀ g, u184.ownBlock = some g → w170.heap.size ≤ g ∧ g < w182.heap.size) := fun g e => hO185.lt g e
  clear hO185 hB183
  have HC194 := hideT' (eqTermS_in u184 u23 L w182 hLl (OwnR.inR (l := L) HO192.out termL_len) HH188.out)
  go_wp2_with fail
  refine HC194.out.mono ?_
  rintro e w195 ⟨rfl, hB196⟩
  have hT197 := hT186.trans (hB196.mono hT186.size)
  have hs198 := hB196.size
  have HH199 := hideT' (HH188.out.below hB196)
  have HH200 := hideT' (HH189.out.below hB196)
  have HH201 := hideT' (OwnR.below (l := L) HO192.out hB196 (Nat.le_refl _))
  clear hB196
  have HC202 := hideT' (heldTermS_in u55 L.length 1 w195 (by omega) (by omega) HH200.out)
  go_wp2_with fail
  refine HC202.out.mono ?_
  rintro e w203 ⟨rfl, hB204⟩
  rw [← HN.out]
  have hT205 := hT197.trans (hB204.mono hT197.size)
  have hs206 := hB204.size
  have HH207 := hideT' (HH199.out.below hB204)
  have HH208 := hideT' (HH200.out.below hB204)
  clear hB204
  go_wp2
  go_ret
  exact ⟨rfl, hT205⟩

set_option maxRecDepth 100000 in
theorem lifted (os : Os) (started : os.Started) (H : Type) (enc : TypeId × Value → H) :
    ReturnsInHanded {} Try.checked os 13 .any (Rows.fnExactApplyTermSpec.pre6 enc Try.prog Try.f13 Rows.fnExactApplyTermRow.domain false) (Rows.fnExactApplyTermSpec.post enc Try.prog Try.f13 false true false false) := by
  refine returnsInHanded_of_change (C := Try.checked) own started (by kernel_rfl) Try.func13
    (ChangeSpec.witness6 (enc := enc) (C := Try.checked) false ⟨#[], #[.slice none 0 0, .slice none 0 0], []⟩ 8 (by kernel_rfl) (by kernel_rfl) (by kernel_rfl) (by kernel_rfl)) ?_
  intro W base args ds gs before hval0 hW hcnd _
  have hval : ∀ (j : Nat) t v, Try.f13.params[j]? = some t → args[j]? = some v → Value.okWide Try.prog W .any base t v := hval0
  have hW' := hW
  obtain ⟨p, q, hA0, hV, rfl, hfz, hnd⟩ := hW
  have hA : DataW.TrodAll enc Try.prog W 0 (fun _ => true) true Try.f13.params.toList args.toList ds p := hA0
  rw [Try.params13] at hA hval
  obtain ⟨v0, vs0, d0, ds0, p0, q0, hargs, rfl, rfl, h0, r0⟩ := trodAll_cons hA
  obtain ⟨v1, vs1, d1, ds1, p1, q1, rfl, rfl, rfl, h1, r1⟩ := trodAll_cons r0
  obtain ⟨rfl, rfl, rfl⟩ := trodAll_nil r1
  obtain rfl : args = #[v0, v1] := by cases args; simp_all
  obtain ⟨rfl, rfl⟩ := trodVars_none hV
  obtain ⟨l0, g0, s0⟩ := open_terms (hval 0 22 v0 rfl rfl) h0
  obtain ⟨l1, g1, s1⟩ := open_terms (hval 1 22 v1 rfl rfl) h1
  clear hA0 hval0
  simp only [List.append_nil] at hW'
  have lt0 : ∀ x ∈ p0, x.block < W.heap.size := fun x hx => hW'.lt x (by simp [hx])
  have lt1 : ∀ x ∈ p1, x.block < W.heap.size := fun x hx => hW'.lt x (by simp [hx])
  refine (walk l0 l1 v0 v1 W g0 g1 s0 s1).mono fun e W' ⟨he, bel⟩ => ?_
  subst he
  exact ⟨_, rfl, _, _, _, [], _, [], hW', (trodAll_cons_mk (shut_bool Try.underlying4 _) trodAll_mk0), (trodAll_cons_mk (Below.trod laidOutR (by kernel_rfl) (of_decide_eq_true (by kernel_rfl)) h0 bel lt0) (trodAll_cons_mk (Below.trod laidOutR (by kernel_rfl) (of_decide_eq_true (by kernel_rfl)) h1 bel lt1) trodAll_mk0)), rfl, bel.frame _, fun h => by cases h⟩

theorem over : Rows.fnExactApplyTermRow.holds Try.pinned (OpenSpec.ofChange Rows.fnExactApplyTermSpec) :=
  OpenClaim.holds_of_wide 13 Try.f13 rfl rfl rfl rfl rfl rfl rfl ⟨rfl, rfl, rfl, rfl, rfl⟩ rfl rfl rfl rfl rfl (by kernel_rfl) Try.func13 (by kernel_rfl)
    (of_decide_eq_true (by kernel_rfl)) (by unfold Func.isWrapper; first | (rw [if_pos (by decide +kernel)]; kernel_rfl) | (rw [if_neg (by decide +kernel)]; exact ⟨rfl, rfl⟩))
    (fun os started H enc _ => lifted os started H enc)

end Go.Proofs.Ytbnagagdboeedaa.fnExactApplyTerm

namespace Go.Proofs.Ytbnagagdboeedaa
theorem applyTerm_holds : Rows.FnExactApplyTermSaid := fnExactApplyTerm.over
#print axioms applyTerm_holds
end Go.Proofs.Ytbnagagdboeedaa
