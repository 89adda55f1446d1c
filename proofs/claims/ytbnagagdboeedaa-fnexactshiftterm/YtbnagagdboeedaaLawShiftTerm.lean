/-
  Proved: for all arguments that can be read, laws.FnExactShiftTerm answers true (ShiftTerm answers as its model, and its answer owns its memory), and its arguments read behind the call as before.
  No condition but the row's own. The frame is the one that the guide's program wrote.
-/
import Derived.Test.YtbnagagdboeedaaRows
import Derived.Test.YtbnagagdboeedaaTailRunPassedA
import Derived.Test.YtbnagagdboeedaaSpecShift
import Derived.Test.YtbnagagdboeedaaTailRunPassedC
import Derived.Test.YtbnagagdboeedaaTailRunPassedE
import Derived.Test.YtbnagagdboeedaaMarkInt
import Derived.WalkKit
import Derived.ProofKit
import Derived.OpenShut
import Derived.ShutString
import Derived.ChangeOld
import Derived.Below
import Derived.Carry
-- what both ShiftTerm answer
namespace Go.Proofs.Ytbnagagdboeedaa
open Go.RowKit BL
set_option linter.unusedVariables false

def ShT (l : List Nd) (d f : Int) : Option Lm := match readP' l with
  | none => none
  | some t => if (-99 ≤ d ∧ d ≤ 99) ∧ (0 ≤ f ∧ f ≤ 99) then (if t.shiftOk d f then some (t.shift d f) else none) else none
theorem ShT_l {l : List Nd} {d f : Int} (h : readP' l = none) : ShT l d f = none := by unfold ShT; rw [h]
theorem ShT_k {l : List Nd} {d f : Int} (h : ¬ ((-99 ≤ d ∧ d ≤ 99) ∧ (0 ≤ f ∧ f ≤ 99))) : ShT l d f = none := by unfold ShT; cases readP' l with
  | none => rfl
  | some t => exact if_neg h
theorem ShT_bad {l : List Nd} {d f : Int} {t : Lm} (h1 : readP' l = some t) (h : t.shiftOk d f = false) : ShT l d f = none := by unfold ShT; rw [h1]; simp [h]
theorem ShT_ok {l : List Nd} {d f : Int} {t : Lm} (h1 : readP' l = some t) (h2 : (-99 ≤ d ∧ d ≤ 99) ∧ (0 ≤ f ∧ f ≤ 99)) (h : t.shiftOk d f = true) : ShT l d f = some (t.shift d f) := by unfold ShT; rw [h1]; simp only; rw [if_pos h2, if_pos h]
theorem shOk_iff {t : Lm} (hok : t.ok = true) (d f : Int) (hf : 0 ≤ f) : t.shiftOk d f = true ↔ ∀ x ∈ FrL t, ¬ (f ≤ x ∧ x + d < f) := by
  have h := Lm.shiftOk_free d f t 0 hf
  rw [Int.add_zero] at h
  rw [h, List.all_eq_true]
  constructor
  · intro h x hx
    have := h x ((FrL_mem hok x).1 hx)
    simp only [Bool.not_eq_true', Bool.and_eq_false_iff, decide_eq_false_iff_not] at this
    omega
  · intro h x hx
    have := h x ((FrL_mem hok x).2 hx)
    simp only [Bool.not_eq_true', Bool.and_eq_false_iff, decide_eq_false_iff_not]
    omega
set_option maxHeartbeats 8000000 in
set_option maxRecDepth 100000 in
theorem implShiftTerm_any (l : List Nd) (d f : Int) (v : Value) (w : World) (hv : NdIn w v l) (hl : l.length ≤ 1048576) :
    Calls Try.prog 25 #[v, .int .i64 d, .int .i64 f] w fun e w' => TOut w (ShT l d f) e w' ∧ Below w.heap.size w w' := by
  have HC := hideT' (readTree_any l v w hv hl)
  clear hv
  go_enter Try.func25, Try.ntmps25
  go_wp2_with fail
  refine HC.out.mono ?_
  rintro e w1 ⟨hans, hB1⟩
  have HB1 := hideT' hB1
  clear hB1
  rcases hans with ⟨p, rfl, hn⟩ | ⟨t, b, rfl, hr, hT⟩
  · have HN := hideT' (ShT_l (d := d) (f := f) hn)
    clear hn
    go_wp2
    go_ret2
    exact ⟨TOut.bad HN.out, HB1.out⟩
  · by_cases hk : (-99 ≤ d ∧ d ≤ 99) ∧ (0 ≤ f ∧ f ≤ 99)
    · have f1 := readP'_facts hr
      have HR := hideT' hr
      have HK := hideT' hk
      have HF := hideT' f1
      obtain ⟨⟨hd1, hd2⟩, hf1, hf2⟩ := hk
      have g1 : ¬ d < -99 := by omega
      have g2 : ¬ 99 < d := by omega
      have g3 : ¬ f < 0 := by omega
      have g4 : ¬ 99 < f := by omega
      have HC2 := hideT' (freeIn_any t b _ w1 hT (by omega) f1.2.2.2.1)
      have HT := hideT' hT
      clear hr f1 hT
      go_wp2_with fail
      refine HC2.out.mono ?_
      rintro e w2 ⟨⟨u, rfl, hO⟩, hB2⟩
      have hin : InR w2 u intL 1 (FrL t) := OwnR.inR (l := FrL t) hO intL_len
      obtain ⟨o, cap, rfl, hcell⟩ := hin.int
      have HCE := hideT' hcell
      have HB2 : Hid (Below w.heap.size w w2) := HB1.out.trans (hB2.mono HB1.out.size)
      have HT2 : Hid (TrIn w2 (fun _ => True) t b) := TrIn.keep (w := w1) hB2.size (fun x _ hx => hB2.block x hx) (fun _ _ _ => trivial) HT.out
      obtain ⟨n, hn⟩ : ∃ n, n = (FrL t).length := ⟨_, rfl⟩
      rw [← hn]
      have hn100 : n ≤ 100 := by rw [hn]; exact FrL_len t
      have HN := hideT' hn
      clear hO hB2 hin hcell hn
      go_wp2_with fail
      go_loopg [38] n (fun g i wr => ∃ j : Nat, g = n - j ∧ j ≤ n ∧ i = .int .i64 (j : Int) ∧ Hid (∀ m x, m < j → (FrL t)[m]? = some x → ¬ (f ≤ x ∧ x + d < f)) ∧ w2 = wr)
      case atStart => exact ⟨0, rfl, by omega, by go_num, fun m x hm => absurd hm (by omega), rfl⟩
      case round =>
        obtain ⟨j, hg, hj, rfl, HJ, rfl⟩ := hrel
        by_cases hlt : (j : Int) < (n : Int)
        · obtain ⟨x, hx⟩ : ∃ x, (FrL t)[j]? = some x := ⟨(FrL t)[j]'(by have := HN.out; omega), by rw [List.getElem?_eq_getElem]⟩
          obtain ⟨g0, ho, hg0, hcj⟩ := HCE.out j x hx
          subst ho
          have hxm : x ∈ FrL t := List.mem_of_getElem? hx
          have hxr := Lm.free_range t 0 HF.out.2.2.2.1 (Int.le_refl _) x ((FrL_mem HF.out.2.2.2.1 x).1 hxm)
          obtain ⟨hx0, hx9⟩ := hxr
          have hw1 : IntKind.i64.wrap (x + d) = x + d := by rw [IntKind.wrap_i64]; omega
          have HX := hideT' hx
          have HXM := hideT' hxm
          clear hx hxm
          by_cases hb1 : f ≤ x
          · by_cases hb2 : x + d < f
            · have HE : Hid (ShT l d f = none) := by
                refine ShT_bad HR.out ?_
                cases hso : t.shiftOk d f with
                | false => rfl
                | true => exact absurd ⟨hb1, hb2⟩ ((shOk_iff HF.out.2.2.2.1 d f hf1).1 hso x HXM.out)
              go_wp2
              go_ret2
              exact ⟨TOut.bad HE.out, HB2.out⟩
            · have HJ2 : Hid (∀ m y, m < j + 1 → (FrL t)[m]? = some y → ¬ (f ≤ y ∧ y + d < f)) := fun m y hm hy => by
                by_cases hmj : m = j
                · subst hmj; rw [HX.out] at hy; injection hy with hy; subst hy; rintro ⟨q1, q2⟩; omega
                · exact HJ.out m y (Nat.lt_of_le_of_ne (Nat.le_of_lt_succ hm) hmj) hy
              go_wp2
              go_roundg (n - (j + 1))
              case measure => omega
              case rel => exact ⟨j + 1, rfl, by omega, by go_num, HJ2, rfl⟩
          · have HJ2 : Hid (∀ m y, m < j + 1 → (FrL t)[m]? = some y → ¬ (f ≤ y ∧ y + d < f)) := fun m y hm hy => by
              by_cases hmj : m = j
              · subst hmj; rw [HX.out] at hy; injection hy with hy; subst hy; rintro ⟨q1, q2⟩; omega
              · exact HJ.out m y (Nat.lt_of_le_of_ne (Nat.le_of_lt_succ hm) hmj) hy
            go_wp2
            go_roundg (n - (j + 1))
            case measure => omega
            case rel => exact ⟨j + 1, rfl, by omega, by go_num, HJ2, rfl⟩
        · have hjn : j = n := by omega
          have hso : t.shiftOk d f = true := (shOk_iff HF.out.2.2.2.1 d f hf1).2 fun x hx => by
            obtain ⟨m, hm, hmx⟩ := List.getElem_of_mem hx
            exact HJ.out m x (by have := HN.out; omega) (by rw [List.getElem?_eq_getElem hm, hmx])
          have HE := hideT' (ShT_ok HR.out HK.out hso)
          have HC3 := hideT' (shifted_any t b d f w2 HT2.out (by have := HF.out.2.1; omega) (Lm.ok_bd HF.out.2.2.2.1) ⟨by omega, by omega⟩ ⟨by omega, by omega⟩)
          obtain ⟨D, hD⟩ : ∃ D, D = t.shift d f := ⟨_, rfl⟩
          have HSZ : Hid (D.sz ≤ 1000000) := by unfold Hid; rw [hD, (Lm.shift_sz d t f).1]; have := HF.out.2.1; omega
          rw [← hD] at HC3 HE
          clear hso hD hjn
          go_wp2_with fail
          refine HC3.out.mono ?_
          rintro e w3 ⟨⟨b3, rfl, hT3⟩, hB3⟩
          have HB3 : Hid (Below w.heap.size w w3) := HB2.out.trans (hB3.mono HB2.out.size)
          have HC4 := hideT' (tellTree_any D b3 _ w3 hT3 HSZ.out)
          clear hT3 hB3
          go_wp2_with fail
          refine HC4.out.mono ?_
          rintro e w4 ⟨⟨u4, rfl, hO4⟩, hB4⟩
          have HFN : Hid (TOut w (ShT l d f) (.returned (.tuple #[u4, .bool D.good])) w4 ∧ Below w.heap.size w w4) := ⟨ToldT.out (t := D) ⟨u4, rfl, hO4⟩ HB3.out.size HE.out, HB3.out.trans (hB4.mono HB3.out.size)⟩
          obtain ⟨q, hq⟩ : ∃ q, q = D.good := ⟨_, rfl⟩
          rw [← hq] at HFN ⊢
          clear hq hO4 hB4
          go_wp2
          go_ret2
          exact HFN.out
    · have HN := hideT' (ShT_k (l := l) hk)
      clear hr hT
      by_cases g1 : d < -99
      · go_wp2
        go_ret2
        exact ⟨TOut.bad HN.out, HB1.out⟩
      · by_cases g2 : 99 < d
        · go_wp2
          go_ret2
          exact ⟨TOut.bad HN.out, HB1.out⟩
        · by_cases g3 : f < 0
          · go_wp2
            go_ret2
            exact ⟨TOut.bad HN.out, HB1.out⟩
          · have g4 : 99 < f := by omega
            go_wp2
            go_ret2
            exact ⟨TOut.bad HN.out, HB1.out⟩
set_option maxHeartbeats 8000000 in
set_option maxRecDepth 100000 in
theorem specShiftTerm_any (l : List Nd) (d f : Int) (v : Value) (w : World) (hv : NdIn w v l) (hl : l.length ≤ 1048576) :
    Calls Try.prog 24 #[v, .int .i64 d, .int .i64 f] w fun e w' => TOut w (ShT l d f) e w' ∧ Below w.heap.size w w' := by
  have HV := hideT' hv
  have HC := hideT' (specGoodTerm_any l v w hv hl)
  clear hv
  cases hr : readP' l with
  | none =>
    have HN := hideT' (ShT_l (d := d) (f := f) hr)
    rw [goodS_none hr] at HC
    clear hr
    go_enter Try.func24, Try.ntmps24
    go_wp2_with fail
    refine HC.out.mono ?_
    rintro e w1 ⟨rfl, hB1⟩
    have HB1 := hideT' hB1
    clear hB1
    go_wp2
    go_ret2
    exact ⟨TOut.bad HN.out, HB1.out⟩
  | some t =>
    rw [goodS_some hr] at HC
    have HF := hideT' (readP'_facts hr)
    have HR := hideT' hr
    clear hr
    go_enter Try.func24, Try.ntmps24
    go_wp2_with fail
    refine HC.out.mono ?_
    rintro e w1 ⟨rfl, hB1⟩
    have HB1 := hideT' hB1
    clear hB1
    go_wp2_with fail
    refine (l1In_any d (-99) 99 _).mono ?_
    rintro e w2 ⟨rfl, hw2⟩
    rw [hw2]
    clear hw2
    by_cases hd : -99 ≤ d ∧ d ≤ 99
    · rw [decide_eq_true hd.1, decide_eq_true hd.2]
      go_wp2_with fail
      refine (l1In_any f 0 99 _).mono ?_
      rintro e w3 ⟨rfl, hw3⟩
      rw [hw3]
      clear hw3
      by_cases hf : 0 ≤ f ∧ f ≤ 99
      · rw [decide_eq_true hf.1, decide_eq_true hf.2]
        have HK : Hid ((-99 ≤ d ∧ d ≤ 99) ∧ (0 ≤ f ∧ f ≤ 99)) := ⟨hd, hf⟩
        have HC2 := hideT' (lcTree_whole l t v w1 (HV.out.below HB1.out) HR.out)
        clear hd hf
        go_wp2_with fail
        refine HC2.out.mono ?_
        rintro e w4 ⟨⟨z, rfl, hz⟩, hB4⟩
        have HB4 : Hid (Below w.heap.size w w4) := HB1.out.trans (hB4.mono HB1.out.size)
        have HC3 := hideT' (lcShift_all d ⟨by have := HK.out; omega, by have := HK.out; omega⟩ t.sz t (Nat.le_refl _) f z _ w4 hz (Lm.ok_bd HF.out.2.2.2.1) (by have := HK.out; omega) (by have := HK.out; have := HF.out.2.1; omega))
        obtain ⟨k1, hk1⟩ : ∃ k, k = lcC t.kd t.nm z := ⟨_, rfl⟩
        rw [← hk1] at HC3 ⊢
        clear hz hB4 hk1
        go_wp2_with fail
        refine HC3.out.mono ?_
        rintro e w5 ⟨hans, hB5⟩
        have HB5 : Hid (Below w.heap.size w w5) := HB4.out.trans (hB5.mono HB4.out.size)
        clear hB5
        rcases hans with ⟨hso, z5, rfl, hz5⟩ | ⟨hso, k5, n5, o5, m5, c5, rfl⟩
        · have HE := hideT' (ShT_ok HR.out HK.out hso)
          obtain ⟨D, hD⟩ : ∃ D, D = t.shift d f := ⟨_, rfl⟩
          rw [← hD] at hz5 HE ⊢
          obtain ⟨o5, c5, rfl⟩ := hz5.form
          obtain ⟨w6, hw6⟩ : ∃ w6, w6 = w5.alloc (.cells #[.int .i64 D.kd, .int .i64 D.nm, .slice o5 D.kids.length c5] 54) := ⟨_, rfl⟩
          have hB6 : Below w5.heap.size w5 w6 := by rw [hw6]; exact (Below.refl _ _).alloc (Nat.le_refl _) _
          have HC4 := hideT' (lcTold_any D _ _ w6 (LcIn.below hB6 hz5))
          have HB6 : Hid (Below w.heap.size w w6) := HB5.out.trans (hB6.mono HB5.out.size)
          unfold lcC at HC4
          unfold lcC
          clear hz5 hB6 hso hD
          go_wp2_with fail
          rw [← hw6]
          refine HC4.out.mono ?_
          rintro e w7 ⟨⟨u, rfl, hO⟩, hB7⟩
          have HFN : Hid (TOut w (ShT l d f) (.returned (.tuple #[u, .bool D.good])) w7 ∧ Below w.heap.size w w7) := ⟨ToldT.out (t := D) ⟨u, rfl, hO⟩ HB6.out.size HE.out, HB6.out.trans (hB7.mono HB6.out.size)⟩
          obtain ⟨q, hq⟩ : ∃ q, q = D.good := ⟨_, rfl⟩
          rw [← hq] at HFN ⊢
          clear hO hB7 hw6 hq
          go_wp2
          go_ret2
          exact HFN.out
        · have HE := hideT' (ShT_bad (d := d) (f := f) HR.out hso)
          have HB6 : Hid (Below w.heap.size w (w5.alloc (.cells #[.int .i64 k5, .int .i64 n5, .slice o5 m5 c5] 54))) := HB5.out.alloc HB5.out.size _
          unfold lcC
          clear hso
          go_wp2
          go_ret2
          exact ⟨TOut.bad HE.out, HB6.out⟩
      · have HN := hideT' (ShT_k (l := l) (d := d) (f := f) (fun h => hf h.2))
        have hdd : (decide (0 ≤ f) && decide (f ≤ 99)) = false := by simpa using hf
        rw [hdd]
        clear hd hf hdd
        go_wp2
        go_ret2
        exact ⟨TOut.bad HN.out, HB1.out⟩
    · have HN := hideT' (ShT_k (l := l) (d := d) (f := f) (fun h => hd h.1))
      have hdd : (decide (-99 ≤ d) && decide (d ≤ 99)) = false := by simpa using hd
      rw [hdd]
      clear hd hdd
      go_wp2
      go_ret2
      exact ⟨TOut.bad HN.out, HB1.out⟩
end Go.Proofs.Ytbnagagdboeedaa

namespace Go.Proofs.Ytbnagagdboeedaa.fnExactShiftTerm
open Go.ChangeShapes Go.WideShapes Go.ChangeAt Go.RowKit
open Go.ChangeMaps (open_string shut_string)
set_option linter.unusedVariables false

theorem own : ownKnob Try.prog.godebug = none := by kernel_rfl

set_option maxHeartbeats 16000000 in
set_option maxRecDepth 100000 in
theorem walk (l0 : List (Int × Int × Int)) (i1 : Int) (i2 : Int) (v0 : Value) (w : World) (hv0 : SlR w v0 termL 3 l0) (hm0 : l0.length ≤ maxLen) :
    Calls Try.prog 4 #[v0, .int .i64 i1, .int .i64 i2] w fun e w' => e = .returned (.bool true) ∧ Below w.heap.size w w' := by
  have HV0 := hideT' hv0
  clear hv0
  have hT0 := Below.refl w.heap.size w
  go_enter Try.func4, Try.ntmps4
  have HZ0 := hideT' (szTermS_any l0 v0 1048576 w HV0.out (by omega) (by omega) hm0)
  go_wp2_with fail
  refine HZ0.out.mono ?_
  rintro e w' ⟨⟨r0, rfl, hr0⟩, hw'⟩
  rw [hw']
  clear hw'
  rcases hr0 with rfl | ⟨hr00, hr01, hlen0⟩
  · go_wp2
    go_ret
    exact ⟨rfl, hT0⟩
  have hrn0 : ¬ r0 < 0 := by omega
  have hl0 : l0.length ≤ 1048576 := by omega
  have hn0 : (ndsOf l0).length ≤ 1048576 := by rw [ndsOf_len]; exact hl0
  obtain ⟨q, hq⟩ : ∃ q, q = toldB (ShT (ndsOf l0) i1 i2) := ⟨_, rfl⟩
  obtain ⟨L, hL⟩ : ∃ L, L = toldL (ShT (ndsOf l0) i1 i2) := ⟨_, rfl⟩
  have hLl : L.length ≤ 1048576 := by rw [hL]; exact toldL_len _
  have HQ := hideT' (And.intro hq hL)
  clear hq hL
  have hqq : (q != q) = false := by cases q <;> rfl
  have HC1 := hideT' (toTermS_any l0 v0 w (HV0.out.below hT0) hl0)
  go_wp2_with fail
  refine HC1.out.mono ?_
  rintro e w2 ⟨⟨b3, rfl, hb4, hM5⟩, hB6⟩
  have hT7 := hT0.trans (hB6.mono hT0.size)
  have hs8 := hB6.size
  have HM9 := hideT' hM5
  have hltb3 := hM5.lt
  clear hM5 hB6
  have HC10 := hideT' (specShiftTerm_any (ndsOf l0) i1 i2 _ w2 (Go.Proofs.Ytbnagagdboeedaa.RecAt.nds HM9.out) hn0)
  go_wp2_with fail
  refine HC10.out.mono ?_
  rintro e w11 ⟨⟨u13, rfl, hO14⟩, hB12⟩
  rw [← HQ.out.1]
  rw [← HQ.out.2] at hO14
  have hT15 := hT7.trans (hB12.mono hT7.size)
  have hs16 := hB12.size
  have HH17 := hideT' (HM9.out.below hB12 HM9.out.lt)
  have HO18 := hideT' hO14
  have HU19 : Hid (∀ g, u13.ownBlock = some g → w2.heap.size ≤ g ∧ g < w11.heap.size) := fun g e => hO14.lt g e
  clear hO14 hB12
  have HC20 := hideT' (toTermS_any l0 v0 w11 (HV0.out.below hT15) hl0)
  go_wp2_with fail
  refine HC20.out.mono ?_
  rintro e w21 ⟨⟨b22, rfl, hb23, hM24⟩, hB25⟩
  have hT26 := hT15.trans (hB25.mono hT15.size)
  have hs27 := hB25.size
  have HH28 := hideT' (OwnR.below (l := L) HO18.out hB25 (Nat.le_refl _))
  have HM29 := hideT' hM24
  have hltb22 := hM24.lt
  clear hM24 hB25
  have HC30 := hideT' (implShiftTerm_any (ndsOf l0) i1 i2 _ w21 (Go.Proofs.Ytbnagagdboeedaa.RecAt.nds HM29.out) hn0)
  go_wp2_with fail
  refine HC30.out.mono ?_
  rintro e w31 ⟨⟨u33, rfl, hO34⟩, hB32⟩
  rw [← HQ.out.1]
  rw [← HQ.out.2] at hO34
  have hT35 := hT26.trans (hB32.mono hT26.size)
  have hs36 := hB32.size
  have HH37 := hideT' (OwnR.below (l := L) HH28.out hB32 (Nat.le_refl _))
  have HH38 := hideT' (HM29.out.below hB32 HM29.out.lt)
  have HO39 := hideT' hO34
  have HU40 : Hid (∀ g, u33.ownBlock = some g → w21.heap.size ≤ g ∧ g < w31.heap.size) := fun g e => hO34.lt g e
  clear hO34 hB32
  have HC41 := hideT' (eqTermS_in u33 u13 L w31 hLl (OwnR.inR (l := L) HO39.out termL_len) (OwnR.inR (l := L) HH37.out termL_len))
  go_wp2_with fail
  refine HC41.out.mono ?_
  rintro e w42 ⟨rfl, hB43⟩
  have hT44 := hT35.trans (hB43.mono hT35.size)
  have hs45 := hB43.size
  have HH46 := hideT' (OwnR.below (l := L) HH37.out hB43 (Nat.le_refl _))
  have HH47 := hideT' (HH38.out.below hB43 HH38.out.lt)
  have HH48 := hideT' (OwnR.below (l := L) HO39.out hB43 (Nat.le_refl _))
  clear hB43
  have HC49 := hideT' (toTermS_any l0 v0 w42 (HV0.out.below hT44) hl0)
  go_wp2_with fail
  refine HC49.out.mono ?_
  rintro e w50 ⟨⟨b51, rfl, hb52, hM53⟩, hB54⟩
  have hT55 := hT44.trans (hB54.mono hT44.size)
  have hs56 := hB54.size
  have HH57 := hideT' (OwnR.below (l := L) HH46.out hB54 (Nat.le_refl _))
  have HH58 := hideT' (HH47.out.below hB54 HH47.out.lt)
  have HH59 := hideT' (OwnR.below (l := L) HH48.out hB54 (Nat.le_refl _))
  have HM60 := hideT' hM53
  have hltb51 := hM53.lt
  clear hM53 hB54
  have HC61 := hideT' (eqTermS_in (slR b22 l0) (slR b51 l0) l0 w50 hl0 (HH58.out.inR termL_len) (HM60.out.inR termL_len))
  go_wp2_with fail
  refine HC61.out.mono ?_
  rintro e w62 ⟨rfl, hB63⟩
  have hT64 := hT55.trans (hB63.mono hT55.size)
  have hs65 := hB63.size
  have HH66 := hideT' (OwnR.below (l := L) HH57.out hB63 (Nat.le_refl _))
  have HH67 := hideT' (HH58.out.below hB63 HH58.out.lt)
  have HH68 := hideT' (OwnR.below (l := L) HH59.out hB63 (Nat.le_refl _))
  have HH69 := hideT' (HM60.out.below hB63 HM60.out.lt)
  clear hB63
  have HC70 := hideT' (markTermS_own (slR b22 l0) l0.length _ 1 w11.heap.size w62 (by omega) (by omega) (HH67.out.own termL_len hb23 (by unfold maxLen; omega)))
  obtain ⟨M73, hM73⟩ : ∃ M73 : Int, M73 = 1 + 3 * (l0.length : Int) := ⟨_, rfl⟩
  have hM73n : ¬ M73 < 0 := by omega
  have hM73p : 0 < M73 ∧ M73 ≤ 8000000 := by omega
  have HN74 := hideT' hM73
  clear hM73
  go_wp2_with fail
  refine HC70.out.mono ?_
  rintro e w71 ⟨rfl, _, hg72⟩
  rw [← HN74.out]
  have hs75 := hg72.size
  have hT76 : Below w.heap.size w w71 := hT64.grown hg72 hT64.size (fun k e => by simp only [Value.ownBlock] at e; injection e with e; omega)
  have HH77 := hideT' (show OwnR w71 w2.heap.size u13 57 termL 3 L from own_keep' HH66.out hg72 (fun g e h => by simp only [Value.ownBlock] at h; injection h with h; have := HU19.out g e; omega))
  have HH78 := hideT' (show OwnR w71 w21.heap.size u33 57 termL 3 L from own_keep' HH68.out hg72 (fun g e h => by simp only [Value.ownBlock] at h; injection h with h; have := HU40.out g e; omega))
  clear hg72
  have HC79 := hideT' (eqTermS_in u33 u13 L w71 hLl (OwnR.inR (l := L) HH78.out termL_len) (OwnR.inR (l := L) HH77.out termL_len))
  go_wp2_with fail
  refine HC79.out.mono ?_
  rintro e w80 ⟨rfl, hB81⟩
  have hT82 := hT76.trans (hB81.mono hT76.size)
  have hs83 := hB81.size
  have HH84 := hideT' (OwnR.below (l := L) HH77.out hB81 (Nat.le_refl _))
  have HH85 := hideT' (OwnR.below (l := L) HH78.out hB81 (Nat.le_refl _))
  clear hB81
  have HC86 := hideT' (markTermS_own u33 L.length _ 1 w21.heap.size w80 (by omega) (by omega) HH85.out)
  obtain ⟨N, hN⟩ : ∃ N : Int, N = 1 + 3 * (L.length : Int) := ⟨_, rfl⟩
  have hNn : ¬ N < 0 := by omega
  have HN := hideT' hN
  clear hN
  go_wp2_with fail
  refine HC86.out.mono ?_
  rintro e w87 ⟨rfl, hO89, hg88⟩
  rw [← HN.out]
  have hs90 := hg88.size
  have hT91 : Below w.heap.size w w87 := hT82.grown hg88 hT82.size (fun k e => by have := HU40.out k e; omega)
  have HI1 := hideT' (OwnR.inR (l := L) (show OwnR w87 w2.heap.size u13 57 termL 3 L from own_keep' HH84.out hg88 (fun g e h => by have := HU19.out g e; have := HU40.out g h.symm; omega)) termL_len)
  have HI2 := hideT' (OwnR.inR (l := markL markTerm 3 1 L.length) hO89 termL_len)
  clear hg88 hO89
  have hNN : (N != N) = false := by simp
  have HC92 := hideT' (heldTermS_in u33 L.length 1 w87 (by omega) (by omega) HI2.out)
  go_wp2_with fail
  refine HC92.out.mono ?_
  rintro e w93 ⟨rfl, hB94⟩
  rw [← HN.out]
  have hT95 := hT91.trans (hB94.mono hT91.size)
  have hs96 := hB94.size
  have HH97 := hideT' (HI1.out.below hB94)
  have HH98 := hideT' (HI2.out.below hB94)
  clear hB94
  have HC99 := hideT' (toTermS_any l0 v0 w93 (HV0.out.below hT95) hl0)
  go_wp2_with fail
  refine HC99.out.mono ?_
  rintro e w100 ⟨⟨b101, rfl, hb102, hM103⟩, hB104⟩
  have hT105 := hT95.trans (hB104.mono hT95.size)
  have hs106 := hB104.size
  have HH107 := hideT' (HH97.out.below hB104)
  have HH108 := hideT' (HH98.out.below hB104)
  have HM109 := hideT' hM103
  have hltb101 := hM103.lt
  clear hM103 hB104
  have HC110 := hideT' (implShiftTerm_any (ndsOf l0) i1 i2 _ w100 (Go.Proofs.Ytbnagagdboeedaa.RecAt.nds HM109.out) hn0)
  go_wp2_with fail
  refine HC110.out.mono ?_
  rintro e w111 ⟨⟨u113, rfl, hO114⟩, hB112⟩
  rw [← HQ.out.1]
  rw [← HQ.out.2] at hO114
  have hT115 := hT105.trans (hB112.mono hT105.size)
  have hs116 := hB112.size
  have HH117 := hideT' (HH107.out.below hB112)
  have HH118 := hideT' (HH108.out.below hB112)
  have HH119 := hideT' (HM109.out.below hB112 HM109.out.lt)
  have HO120 := hideT' hO114
  have HU121 : Hid (∀ g, u113.ownBlock = some g → w100.heap.size ≤ g ∧ g < w111.heap.size) := fun g e => hO114.lt g e
  clear hO114 hB112
  have HC122 := hideT' (eqTermS_in u113 u13 L w111 hLl (OwnR.inR (l := L) HO120.out termL_len) HH117.out)
  go_wp2_with fail
  refine HC122.out.mono ?_
  rintro e w123 ⟨rfl, hB124⟩
  have hT125 := hT115.trans (hB124.mono hT115.size)
  have hs126 := hB124.size
  have HH127 := hideT' (HH117.out.below hB124)
  have HH128 := hideT' (HH118.out.below hB124)
  have HH129 := hideT' (OwnR.below (l := L) HO120.out hB124 (Nat.le_refl _))
  clear hB124
  have HC130 := hideT' (heldTermS_in u33 L.length 1 w123 (by omega) (by omega) HH128.out)
  go_wp2_with fail
  refine HC130.out.mono ?_
  rintro e w131 ⟨rfl, hB132⟩
  rw [← HN.out]
  have hT133 := hT125.trans (hB132.mono hT125.size)
  have hs134 := hB132.size
  have HH135 := hideT' (HH127.out.below hB132)
  have HH136 := hideT' (HH128.out.below hB132)
  clear hB132
  go_wp2
  go_ret
  exact ⟨rfl, hT133⟩

set_option maxRecDepth 100000 in
theorem lifted (os : Os) (started : os.Started) (H : Type) (enc : TypeId × Value → H) :
    ReturnsInHanded {} Try.checked os 4 .any (Rows.fnExactShiftTermSpec.pre6 enc Try.prog Try.f4 Rows.fnExactShiftTermRow.domain false) (Rows.fnExactShiftTermSpec.post enc Try.prog Try.f4 false true false false) := by
  refine returnsInHanded_of_change (C := Try.checked) own started (by kernel_rfl) Try.func4
    (ChangeSpec.witness6 (enc := enc) (C := Try.checked) false ⟨#[], #[.slice none 0 0, .int .i64 0, .int .i64 0], []⟩ 8 (by kernel_rfl) (by kernel_rfl) (by kernel_rfl) (by kernel_rfl)) ?_
  intro W base args ds gs before hval0 hW hcnd _
  have hval : ∀ (j : Nat) t v, Try.f4.params[j]? = some t → args[j]? = some v → Value.okWide Try.prog W .any base t v := hval0
  have hW' := hW
  obtain ⟨p, q, hA0, hV, rfl, hfz, hnd⟩ := hW
  have hA : DataW.TrodAll enc Try.prog W 0 (fun _ => true) true Try.f4.params.toList args.toList ds p := hA0
  rw [Try.params4] at hA hval
  obtain ⟨v0, vs0, d0, ds0, p0, q0, hargs, rfl, rfl, h0, r0⟩ := trodAll_cons hA
  obtain ⟨v1, vs1, d1, ds1, p1, q1, rfl, rfl, rfl, h1, r1⟩ := trodAll_cons r0
  obtain ⟨v2, vs2, d2, ds2, p2, q2, rfl, rfl, rfl, h2, r2⟩ := trodAll_cons r1
  obtain ⟨rfl, rfl, rfl⟩ := trodAll_nil r2
  obtain rfl : args = #[v0, v1, v2] := by cases args; simp_all
  obtain ⟨rfl, rfl⟩ := trodVars_none hV
  obtain ⟨l0, g0, s0⟩ := open_terms (hval 0 22 v0 rfl rfl) h0
  obtain ⟨j1, rfl, rfl, rfl, e1⟩ := open_int Try.underlying3 (hval 1 3 v1 rfl rfl) h1
  obtain ⟨j2, rfl, rfl, rfl, e2⟩ := open_int Try.underlying3 (hval 2 3 v2 rfl rfl) h2
  clear hA0 hval0
  simp only [List.append_nil] at hW'
  have lt0 : ∀ x ∈ p0, x.block < W.heap.size := fun x hx => hW'.lt x (by simp [hx])
  refine (walk l0 j1 j2 v0 W g0 s0).mono fun e W' ⟨he, bel⟩ => ?_
  subst he
  exact ⟨_, rfl, _, _, _, [], _, [], hW', (trodAll_cons_mk (shut_bool Try.underlying4 _) trodAll_mk0), (trodAll_cons_mk (Below.trod laidOutR (by kernel_rfl) (of_decide_eq_true (by kernel_rfl)) h0 bel lt0) (trodAll_cons_mk (shut_int Try.underlying3 e1) (trodAll_cons_mk (shut_int Try.underlying3 e2) trodAll_mk0))), rfl, bel.frame _, fun h => by cases h⟩

theorem over : Rows.fnExactShiftTermRow.holds Try.pinned (OpenSpec.ofChange Rows.fnExactShiftTermSpec) :=
  OpenClaim.holds_of_wide 4 Try.f4 rfl rfl rfl rfl rfl rfl rfl ⟨rfl, rfl, rfl, rfl, rfl⟩ rfl rfl rfl rfl rfl (by kernel_rfl) Try.func4 (by kernel_rfl)
    (of_decide_eq_true (by kernel_rfl)) (by unfold Func.isWrapper; first | (rw [if_pos (by decide +kernel)]; kernel_rfl) | (rw [if_neg (by decide +kernel)]; exact ⟨rfl, rfl⟩))
    (fun os started H enc _ => lifted os started H enc)

end Go.Proofs.Ytbnagagdboeedaa.fnExactShiftTerm

namespace Go.Proofs.Ytbnagagdboeedaa
theorem shiftTerm_holds : Rows.FnExactShiftTermSaid := fnExactShiftTerm.over
#print axioms shiftTerm_holds
end Go.Proofs.Ytbnagagdboeedaa
