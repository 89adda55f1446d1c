/-
  What spec.lbRead and spec.ReadReal answer.
-/
import Derived.Test.YtoiegaggekgmjaaDoorSpecReadA
namespace Go.Proofs.YtoiegaggekgmjaaDoor
open Go.RowKit
set_option linter.unusedVariables false

theorem wpList_idR {ops : Array Oper} {rest : List Oper} {a : Act} {w : World} {Q : Exit → Act → World → Prop} (h : wpList Tryd.prog ops Q rest a w) : wpList Tryd.prog ops Q rest a w := h
theorem expP_no {l : List UInt8} (h : canonB (bodyN l) = false ∨ 2 < (bodyN l).length ∨ (negN l = true ∧ bodyN l = [48])) : expP l = none := by
  unfold expP
  rw [if_neg]
  intro hh
  simp only [Bool.and_eq_true, decide_eq_true_eq, Bool.not_eq_true'] at hh
  obtain ⟨⟨h1, h2⟩, h3⟩ := hh
  rcases h with h | h | ⟨g1, g2⟩
  · rw [h] at h1; cases h1
  · omega
  · rw [g1, g2] at h3; cases h3
theorem expP_yes {l : List UInt8} (h1 : canonB (bodyN l) = true) (h2 : (bodyN l).length ≤ 2) (h3 : negN l = false ∨ bodyN l ≠ [48]) : expP l = some (if negN l then -(dval (bodyN l) : Int) else (dval (bodyN l) : Int)) := by
  unfold expP
  rw [if_pos]
  simp only [Bool.and_eq_true, decide_eq_true_eq, Bool.not_eq_true']
  refine ⟨⟨h1, h2⟩, ?_⟩
  rcases h3 with h3 | h3
  · rw [h3]; rfl
  · rw [Bool.and_eq_false_iff]; exact .inr (by rw [beq_eq_false_iff_ne]; exact h3)
theorem ten_mulR {x : Nat} (i j k : Nat) {n : Nat} (h : x < 10 ^ i) (hn : n < j) (hk : i + j = k ∨ i + j ≤ k) : x * 10 ^ n < 10 ^ k := by
  have h1 : 10 ^ i * 10 ^ n ≤ 10 ^ k := by rw [← Nat.pow_add]; exact Nat.pow_le_pow_right (by decide) (by omega)
  exact Nat.lt_of_lt_of_le (Nat.mul_lt_mul_of_pos_right h (Nat.pow_pos (by decide))) h1
theorem ten_two60 {x j : Nat} (h : x < 10 ^ 180) (hj : 600 ≤ j) : x < 2 ^ j := Nat.lt_of_lt_of_le h (ten_two 60 j (by omega))
/-- The power of ten of the whole text. -/
def powP (l : List UInt8) : Option Int := if (cutB 101 l).2.2 then expP (cutB 101 l).2.1 else some 0
theorem decP_no {l : List UInt8} (h : powP l = none) : decP l = none := by
  unfold decP; unfold powP at h; rw [h]
theorem decP_bad {l : List UInt8} (h : plainB (cutB 46 (cutB 101 l).1).1 = false ∨ ((cutB 46 (cutB 101 l).1).2.2 = true ∧ plainB (cutB 46 (cutB 101 l).1).2.1 = false)) : decP l = none := by
  unfold decP
  split
  · rfl
  · rw [if_neg]
    intro hh
    simp only [Bool.and_eq_true, Bool.or_eq_true, Bool.not_eq_true'] at hh
    rcases h with h | ⟨h, g⟩
    · rw [h] at hh; exact absurd hh.1 (by simp)
    · rw [h, g] at hh; exact absurd hh.2 (by simp)
theorem decP_yes {l : List UInt8} {x : Int} (h : powP l = some x) (h1 : plainB (cutB 46 (cutB 101 l).1).1 = true) (h2 : (cutB 46 (cutB 101 l).1).2.2 = false ∨ plainB (cutB 46 (cutB 101 l).1).2.1 = true) : decP l = some ((cutB 46 (cutB 101 l).1).1, (cutB 46 (cutB 101 l).1).2.1, x) := by
  unfold decP; unfold powP at h; rw [h]
  simp only
  rw [if_pos]
  simp only [Bool.and_eq_true, Bool.or_eq_true, Bool.not_eq_true']
  exact ⟨h1, h2⟩
theorem dval_two {l : List UInt8} (h : l.all isDig = true) (hl : l.length ≤ 2) : dval l ≤ 99 := by
  have h1 := dval_lt l h
  have : 10 ^ l.length ≤ 10 ^ 2 := Nat.pow_le_pow_right (by decide) hl
  omega
theorem plain_all {l : List UInt8} (h : plainB l = true) : l.all isDig = true ∧ 1 ≤ l.length ∧ l.length ≤ 40 := by
  unfold plainB at h
  simp only [Bool.and_eq_true, decide_eq_true_eq] at h
  exact h

set_option maxHeartbeats 8000000 in
set_option maxRecDepth 100000 in
theorem lbRead_any (s : ByteArray) (w : World) (hs : s.size ≤ maxLen) :
    Calls Tryd.prog 7 #[.string s] w fun e w' => ReadAns s.data.toList e ∧ Below w.heap.size w w' := by
  have hz := zero_real.1
  have hm := hs
  unfold maxLen at hs
  have HW0 : Hid (RowAt (w.alloc (.cells #[.bool false, .int .i64 0, .int .i64 0] 23)) w.heap.size 23 #[.bool false, .int .i64 0, .int .i64 0] ∧ Below w.heap.size w (w.alloc (.cells #[.bool false, .int .i64 0, .int .i64 0] 23)) ∧ w.heap.size + 1 ≤ (w.alloc (.cells #[.bool false, .int .i64 0, .int .i64 0] 23)).heap.size) := ⟨RowAt.new w 23 #[.bool false, .int .i64 0, .int .i64 0], (Below.refl _ _).alloc (Nat.le_refl _) _, by simp⟩
  go_enter Tryd.func7, Tryd.ntmps7
  go_upto_region 1 with fail
  go_cut [4] (fun x wx => x = .bool (negN s.data.toList) ∧ Hid (RowAt wx w.heap.size 23 #[.bool false, .int .i64 0, .int .i64 0] ∧ Below w.heap.size w wx ∧ w.heap.size + 1 ≤ wx.heap.size))
  case first =>
    by_cases h : 0 < s.size
    · have hn := neg_some h
      cases h45 : (s[0] == 45) with
      | true =>
        rw [h45] at hn
        have h45' : s[0].toNat = 45 := by rw [eq_of_beq h45]; rfl
        have HN := hideT' hn
        clear hn h45
        go_wp2
        go_meet
        case rel => exact ⟨by rw [HN.out], HW0⟩
      | false =>
        rw [h45] at hn
        have h45' : ((s[0].toNat : Int) == 45) = false := by
          rw [beq_eq_false_iff_ne] at h45 ⊢
          intro e; apply h45; exact UInt8.toNat_inj.1 (by simpa using (by omega : s[0].toNat = 45))
        have HN := hideT' hn
        clear hn h45
        go_wp2
        go_meet
        case rel => exact ⟨by rw [HN.out], HW0⟩
    · have HN := hideT' (neg_none h)
      go_wp2
      go_meet
      case rel => exact ⟨by rw [HN.out], HW0⟩
  case rest =>
    obtain ⟨rfl, HW⟩ := hcut
    clear HW0
    have HW0 := HW
    obtain ⟨ng, hng⟩ : ∃ ng, ng = negN s.data.toList := ⟨_, rfl⟩
    rw [← hng]
    have HNG := hideT' hng
    clear hng HW
    go_upto_if 25 with fail
    go_cut [0] (fun x wx => ∃ t : ByteArray, x = .string t ∧ Hid (t.data.toList = bodyN s.data.toList) ∧ t.size ≤ s.size ∧ Hid (RowAt wx w.heap.size 23 #[.bool false, .int .i64 0, .int .i64 0] ∧ Below w.heap.size w wx ∧ w.heap.size + 1 ≤ wx.heap.size))
    case first =>
      cases ng with
      | true =>
        have hp : 0 < s.size := by
          by_cases h : 0 < s.size
          · exact h
          · have := neg_none h; rw [← HNG.out] at this; cases this
        have hp1 : (1 : Int) ≤ (s.size : Int) := by omega
        have HT : Hid ((s.extract 1 s.size).data.toList = bodyN s.data.toList) := by unfold Hid bodyN; rw [← HNG.out, if_pos rfl, ext_tail]; simp
        go_wp2
        go_meet
        case rel => exact ⟨s.extract 1 s.size, rfl, HT, by simp, HW0⟩
      | false =>
        have HT : Hid (s.data.toList = bodyN s.data.toList) := by unfold Hid bodyN; rw [← HNG.out]; rfl
        go_wp2
        go_meet
        case rel => exact ⟨s, rfl, HT, Nat.le_refl _, HW0⟩
    case rest =>
      obtain ⟨t, rfl, HT, hts, HW⟩ := hcut
      clear HW0
      have hts' : t.size ≤ maxLen := Nat.le_trans hts hm
      rename_i wd
      by_cases hinf : t.data.toList = [105, 110, 102]
      · have hi' : (t.toList == [105, 110, 102]) = true := str_eq hinf
        have HA : Hid (ReadAns s.data.toList (.returned (.tuple #[.agg #[.bool ng, .int .i64 0, .int .i64 151], .bool true]))) := .inl ⟨by rw [← HT.out]; exact hinf, by rw [HNG.out]⟩
        clear hinf
        go_wp2_with fail
        refine (lbInf_any ng _).mono ?_
        rintro e w1 ⟨rfl, hW1⟩
        have A1 := RowAt.below HW.out.1 hW1 (by have := HW.out.2.2; omega)
        have hB1 : Below w.heap.size w w1 := HW.out.2.1.trans (hW1.mono (by have := HW.out.2.2; omega))
        clear hW1
        go_wp2_with (with_reducible refine wpList_idR ?_; refine store_3 rfl 23 _ _ rfl rfl zero_real.2 w.heap.size _ rfl (real_one _ _ _) rfl rfl _ rfl A1 ?_; intro w9 hR9 hg9 hs9)
        exact bodyPost_ret (res_real_tmp Tryd.results7 _ _ w.heap.size _ _ _ _ rfl rfl hR9) rfl ⟨HA.out, hB1.grown hg9 hB1.size (by intro k hk; cases hk; omega)⟩
      · have hi' : (t.toList == [105, 110, 102]) = false := str_ne hinf
        have HI : Hid (bodyN s.data.toList ≠ [105, 110, 102]) := by unfold Hid; rw [← HT.out]; exact hinf
        clear hinf
        go_wp2_with fail
        refine (l2CutB_any 101 101 rfl t _ hts').mono ?_
        rintro e w1 ⟨⟨m, ex, rfl, hm1, hm2⟩, hW1⟩
        have A1 := RowAt.below HW.out.1 hW1 (by have := HW.out.2.2; omega)
        have hB1 : Below w.heap.size w w1 := HW.out.2.1.trans (hW1.mono (by have := HW.out.2.2; omega))
        have hl1 : w.heap.size + 1 ≤ w1.heap.size := Nat.le_trans HW.out.2.2 hW1.size
        have hms : m.size ≤ maxLen ∧ ex.size ≤ maxLen := by
          have h1 := cutB_size 101 t.data.toList
          rw [← hm1, ← hm2] at h1
          simp at h1
          omega
        have hmm := hms.2
        unfold maxLen at hmm
        have HM := hideT' (And.intro hm1 (And.intro hm2 hms))
        clear hm1 hm2 hms hW1 HW
        obtain ⟨hv, hhv⟩ : ∃ hv, (cutB 101 t.data.toList).2.2 = hv := ⟨_, rfl⟩
        rw [hhv]
        have HH := hideT' hhv
        clear hhv
        have HNO : Hid (powP t.data.toList = none → ReadAns s.data.toList (.returned (.tuple #[.agg #[.bool false, .int .i64 0, .int .i64 0], .bool false]))) := fun h => .inr (.inl ⟨⟨HI.out, by rw [← HT.out]; exact decP_no h⟩, rfl⟩)
        go_upto_if 38 with fail
        go_cut [8] (fun x wx => ∃ v : Int, x = .int .i64 v ∧ Hid (powP t.data.toList = some v) ∧ -99 ≤ v ∧ v ≤ 99 ∧ wx = w1)
        case first =>
          cases hv with
          | false =>
            have HP : Hid (powP t.data.toList = some 0) := by unfold Hid powP; rw [HH.out]; rfl
            go_wp2
            go_meet
            case rel => exact ⟨0, rfl, HP, by omega, by omega, rfl⟩
          | true =>
            have HP : Hid (powP t.data.toList = expP ex.data.toList) := by unfold Hid powP; rw [HH.out, HM.out.2.1]; rfl
            go_upto_region 9 with fail
            go_cut [9] (fun x wx => x = .bool (negN ex.data.toList) ∧ wx = w1)
            case first =>
              by_cases h : 0 < ex.size
              · have hn := neg_some h
                cases h45 : (ex[0] == 45) with
                | true =>
                  rw [h45] at hn
                  have h45' : ex[0].toNat = 45 := by rw [eq_of_beq h45]; rfl
                  have HN := hideT' hn
                  clear hn h45
                  go_wp2
                  go_meet
                  case rel => exact ⟨by rw [HN.out], rfl⟩
                | false =>
                  rw [h45] at hn
                  have h45' : ((ex[0].toNat : Int) == 45) = false := by
                    rw [beq_eq_false_iff_ne] at h45 ⊢
                    intro e; apply h45; exact UInt8.toNat_inj.1 (by simpa using (by omega : ex[0].toNat = 45))
                  have HN := hideT' hn
                  clear hn h45
                  go_wp2
                  go_meet
                  case rel => exact ⟨by rw [HN.out], rfl⟩
              · have HN := hideT' (neg_none h)
                go_wp2
                go_meet
                case rel => exact ⟨by rw [HN.out], rfl⟩
            case rest =>
              obtain ⟨rfl, hwc⟩ := hcut
              subst hwc
              obtain ⟨nx, hnx⟩ : ∃ nx, nx = negN ex.data.toList := ⟨_, rfl⟩
              rw [← hnx]
              have HNX := hideT' hnx
              clear hnx
              go_upto_if 47 with fail
              go_cut [6] (fun x wx => ∃ t : ByteArray, x = .string t ∧ Hid (t.data.toList = bodyN ex.data.toList) ∧ t.size ≤ ex.size ∧ wx = wc)
              case first =>
                cases nx with
                | true =>
                  have hp : 0 < ex.size := by
                    by_cases h : 0 < ex.size
                    · exact h
                    · have := neg_none h; rw [← HNX.out] at this; cases this
                  have hp1 : (1 : Int) ≤ (ex.size : Int) := by omega
                  have HT : Hid ((ex.extract 1 ex.size).data.toList = bodyN ex.data.toList) := by unfold Hid bodyN; rw [← HNX.out, if_pos rfl, ext_tail]; simp
                  go_wp2
                  go_meet
                  case rel => exact ⟨ex.extract 1 ex.size, rfl, HT, by simp, rfl⟩
                | false =>
                  have HT : Hid (ex.data.toList = bodyN ex.data.toList) := by unfold Hid bodyN; rw [← HNX.out]; rfl
                  go_wp2
                  go_meet
                  case rel => exact ⟨ex, rfl, HT, Nat.le_refl _, rfl⟩
              case rest =>
                obtain ⟨u, rfl, HU, hus, hwc⟩ := hcut
                subst hwc
                have hum : u.size ≤ maxLen := by unfold maxLen; omega
                have hul : u.data.toList.length = u.size := by simp
                have HUL := hideT' hul
                clear hul
                go_wp2_with fail
                refine (l1Digits_any u _ hum).mono ?_
                rintro e w2 ⟨rfl, rfl⟩
                cases hc : canonB u.data.toList with
                | false =>
                  have HA := hideT' (HNO.out (by rw [HP.out]; exact expP_no (.inl (by rw [← HU.out]; exact hc))))
                  clear hc
                  go_wp2_with (with_reducible refine wpList_idR ?_; refine store_3 rfl 23 _ _ rfl rfl zero_real.2 w.heap.size _ rfl (real_one _ _ _) rfl rfl _ rfl A1 ?_; intro w9 hR9 hg9 hs9)
                  (try simp only [Exit.inBlock, Exit.then]); exact bodyPost_ret (res_real_tmp Tryd.results7 _ _ w.heap.size _ _ _ _ rfl rfl hR9) rfl ⟨HA.out, hB1.grown hg9 hB1.size (by intro k hk; cases hk; omega)⟩
                | true =>
                  have HC := hideT' hc
                  clear hc
                  by_cases h2 : (2 : Int) < (u.size : Int)
                  · have HA := hideT' (HNO.out (by rw [HP.out]; exact expP_no (.inr (.inl (by rw [← HU.out, HUL.out]; omega)))))
                    go_wp2_with (with_reducible refine wpList_idR ?_; refine store_3 rfl 23 _ _ rfl rfl zero_real.2 w.heap.size _ rfl (real_one _ _ _) rfl rfl _ rfl A1 ?_; intro w9 hR9 hg9 hs9)
                    (try simp only [Exit.inBlock, Exit.then]); exact bodyPost_ret (res_real_tmp Tryd.results7 _ _ w.heap.size _ _ _ _ rfl rfl hR9) rfl ⟨HA.out, hB1.grown hg9 hB1.size (by intro k hk; cases hk; omega)⟩
                  · have h2' : (u.size : Int) ≤ 2 := by omega
                    have hd99 : dval u.data.toList ≤ 99 := dval_two (canon_all HC.out) (by rw [HUL.out]; omega)
                    cases nx with
                    | false =>
                      have HE : Hid (powP t.data.toList = some (dval u.data.toList : Int)) := by
                        unfold Hid
                        rw [HP.out, expP_yes (by rw [← HU.out]; exact HC.out) (by rw [← HU.out, HUL.out]; omega) (.inl HNX.out.symm), ← HNX.out, ← HU.out]; rfl
                      go_wp2_with fail
                      refine (laSmallR_any u _ (by omega) (canon_all HC.out)).mono ?_
                      rintro e w2 ⟨⟨x, rfl, HX⟩, rfl⟩
                      have hx0 : -99 ≤ x ∧ x ≤ 99 := by have := HX.out; omega
                      have HE2 : Hid (powP t.data.toList = some x) := by unfold Hid; rw [HE.out, HX.out]
                      go_wp2
                      go_meet
                      case rel => exact ⟨x, rfl, HE2, hx0.1, hx0.2, rfl⟩
                    | true =>
                      by_cases h48 : u.data.toList = [48]
                      · have h48' : (u.toList == [48]) = true := str_eq h48
                        have HA := hideT' (HNO.out (by rw [HP.out]; exact expP_no (.inr (.inr ⟨HNX.out.symm, by rw [← HU.out]; exact h48⟩))))
                        clear h48
                        go_wp2_with (with_reducible refine wpList_idR ?_; refine store_3 rfl 23 _ _ rfl rfl zero_real.2 w.heap.size _ rfl (real_one _ _ _) rfl rfl _ rfl A1 ?_; intro w9 hR9 hg9 hs9)
                        (try simp only [Exit.inBlock, Exit.then]); exact bodyPost_ret (res_real_tmp Tryd.results7 _ _ w.heap.size _ _ _ _ rfl rfl hR9) rfl ⟨HA.out, hB1.grown hg9 hB1.size (by intro k hk; cases hk; omega)⟩
                      · have h48' : (u.toList == [48]) = false := str_ne h48
                        have HE : Hid (powP t.data.toList = some (-(dval u.data.toList : Int))) := by
                          unfold Hid
                          rw [HP.out, expP_yes (by rw [← HU.out]; exact HC.out) (by rw [← HU.out, HUL.out]; omega) (.inr (by rw [← HU.out]; exact h48)), ← HNX.out, ← HU.out]; rfl
                        clear h48
                        go_wp2_with fail
                        refine (laSmallR_any u _ (by omega) (canon_all HC.out)).mono ?_
                        rintro e w2 ⟨⟨x, rfl, HX⟩, rfl⟩
                        have hx0 : -99 ≤ -x ∧ -x ≤ 99 ∧ -99 ≤ x ∧ x ≤ 99 := by have := HX.out; omega
                        obtain ⟨hx1, hx2, hx3, hx4⟩ := hx0
                        have HE2 : Hid (powP t.data.toList = some (-x)) := by unfold Hid; rw [HE.out, HX.out]
                        have hwr : IntKind.i64.wrap (-x) = -x := by rw [IntKind.wrap_i64]; omega
                        go_wp2
                        go_meet
                        case rel => exact ⟨-x, rfl, HE2, hx1, hx2, rfl⟩
        case rest =>
          obtain ⟨v, rfl, HV, hv0, hv1, hwc⟩ := hcut
          subst hwc
          clear HNO
          go_wp2_with fail
          refine (l2CutB_any 46 46 rfl m _ HM.out.2.2.1).mono ?_
          rintro e w2 ⟨⟨a, b, rfl, ha1, hb1⟩, hW2⟩
          have A2 := RowAt.below A1 hW2 (by omega)
          have hB2 : Below w.heap.size w w2 := hB1.trans (hW2.mono (by omega))
          have hl2 : w.heap.size + 1 ≤ w2.heap.size := Nat.le_trans hl1 hW2.size
          have hms : a.size ≤ maxLen ∧ b.size ≤ maxLen := by
            have h1 := cutB_size 46 m.data.toList
            rw [← ha1, ← hb1] at h1
            have := HM.out.2.2.1
            simp at h1
            omega
          rw [HM.out.1] at ha1 hb1
          obtain ⟨p, hp⟩ : ∃ p, (cutB 46 m.data.toList).2.2 = p := ⟨_, rfl⟩
          rw [hp]
          rw [HM.out.1] at hp
          have HAB := hideT' (And.intro ha1 (And.intro hb1 (And.intro hms hp)))
          clear ha1 hb1 hms hp hW2 A1 hB1 hl1
          have HNO : Hid ((plainB a.data.toList = false ∨ (p = true ∧ plainB b.data.toList = false)) → ReadAns s.data.toList (.returned (.tuple #[.agg #[.bool false, .int .i64 0, .int .i64 0], .bool false]))) := fun h => .inr (.inl ⟨⟨HI.out, by rw [← HT.out]; exact decP_bad (by rw [← HAB.out.1, ← HAB.out.2.1, HAB.out.2.2.2]; exact h)⟩, rfl⟩)
          go_upto_region 18 with fail
          go_cut [87] (fun x wx => x = .bool (!plainB a.data.toList || (p && !plainB b.data.toList)) ∧ wx = w2)
          case first =>
            go_wp2_with fail
            refine (lbPlain_any a _ HAB.out.2.2.1.1).mono ?_
            rintro e w3 ⟨rfl, rfl⟩
            cases hpa : plainB a.data.toList with
            | false =>
              go_wp2
              go_meet
              case rel => exact ⟨by rw [hpa]; rfl, rfl⟩
            | true =>
              cases p with
              | false =>
                go_wp2
                go_meet
                case rel => exact ⟨by rw [hpa]; rfl, rfl⟩
              | true =>
                have HPA := hideT' hpa
                clear hpa
                go_wp2_with fail
                refine (lbPlain_any b _ HAB.out.2.2.1.2).mono ?_
                rintro e w3 ⟨rfl, rfl⟩
                cases hpb : plainB b.data.toList with
                | false =>
                  go_wp2
                  go_meet
                  case rel => exact ⟨by rw [HPA.out, hpb]; rfl, rfl⟩
                | true =>
                  go_wp2
                  go_meet
                  case rel => exact ⟨by rw [HPA.out, hpb]; rfl, rfl⟩
          case rest =>
            obtain ⟨rfl, hwc⟩ := hcut
            subst hwc
            obtain ⟨bd, hbd⟩ : ∃ bd, bd = (!plainB a.data.toList || (p && !plainB b.data.toList)) := ⟨_, rfl⟩
            rw [← hbd]
            cases bd with
            | true =>
              have HA := hideT' (HNO.out (by
                cases h1 : plainB a.data.toList with
                | false => exact .inl rfl
                | true =>
                  rw [h1] at hbd
                  cases p with
                  | false => cases hbd
                  | true =>
                    cases h2 : plainB b.data.toList with
                    | false => exact .inr ⟨rfl, rfl⟩
                    | true => rw [h2] at hbd; cases hbd))
              clear hbd
              go_wp2_with (with_reducible refine wpList_idR ?_; refine store_3 rfl 23 _ _ rfl rfl zero_real.2 w.heap.size _ rfl (real_one _ _ _) rfl rfl _ rfl A2 ?_; intro w9 hR9 hg9 hs9)
              (try simp only [Exit.inBlock, Exit.then]); exact bodyPost_ret (res_real_tmp Tryd.results7 _ _ w.heap.size _ _ _ _ rfl rfl hR9) rfl ⟨HA.out, hB2.grown hg9 hB2.size (by intro k hk; cases hk; omega)⟩
            | false =>
              have hpa : plainB a.data.toList = true := by
                cases h1 : plainB a.data.toList with
                | false => rw [h1] at hbd; cases hbd
                | true => rfl
              have hpb : p = false ∨ plainB b.data.toList = true := by
                cases h1 : plainB b.data.toList with
                | true => exact .inr rfl
                | false =>
                  rw [h1, hpa] at hbd
                  cases p with
                  | false => exact .inl rfl
                  | true => cases hbd
              have hdec : decP t.data.toList = some (a.data.toList, b.data.toList, v) := by
                have h1 := decP_yes HV.out (by rw [← HAB.out.1]; exact hpa) (by rw [← HAB.out.2.1, HAB.out.2.2.2]; exact hpb)
                rw [h1, ← HAB.out.1, ← HAB.out.2.1]
              have hbb : b.data.toList.all isDig = true ∧ b.data.toList.length ≤ 40 := by
                rcases hpb with h | h
                · have h1 := cutB_no (c := 46) (l := (cutB 101 t.data.toList).1) (by rw [HAB.out.2.2.2]; exact h)
                  rw [← HAB.out.2.1] at h1
                  rw [h1]; exact ⟨rfl, by simp⟩
                · exact ⟨(plain_all h).1, (plain_all h).2.2⟩
              have haa := plain_all hpa
              have hla : a.data.toList.length = a.size := by simp
              have hlb : b.data.toList.length = b.size := by simp
              have hab : (a ++ b).data.toList = a.data.toList ++ b.data.toList := by simp
              have hrd : rdigs 10 (a ++ b).data.toList = true := digs_rd (by rw [hab, List.all_append, haa.1, hbb.1]; rfl)
              have hsum : (a.size : Int) + (b.size : Int) ≤ 9223372036854775807 := by omega
              have hsz : (a ++ b).size ≤ 80 := by rw [ByteArray.size_append]; omega
              have hrl : rval 10 (a ++ b).data.toList < 10 ^ 80 := Nat.lt_of_lt_of_le (rval_lt 10 _ hrd) (Nat.pow_le_pow_right (by decide) (by rw [show (a ++ b).data.toList.length = (a ++ b).size by simp]; exact hsz))
              obtain ⟨n, hn⟩ : ∃ n, n = v - (b.size : Int) := ⟨_, rfl⟩
              have hwr : IntKind.i64.wrap (v - (b.size : Int)) = n := by rw [IntKind.wrap_i64]; omega
              have hn0 : -139 ≤ n ∧ n ≤ 99 := by omega
              have HD := hideT' (And.intro hdec (And.intro hrd (And.intro hab (And.intro hrl (And.intro hn (And.intro hn0 (And.intro hsz hlb)))))))
              clear hbd hpa hpb hdec hbb haa hla hlb hab hrd hrl hn hn0 hsz HNO
              go_wp2_with fail
              refine (l1OfRadix_any (a ++ b) 10 10 _ (by have := HD.out.2.2.2.2.2.2.1; omega) rfl (by omega) (by omega)).mono ?_
              rintro e w3 ⟨⟨dt, rfl, hdt, _⟩, hW3⟩
              have HTX : Hid (Tx dt (rval 10 (a ++ b).data.toList)) := hdt HD.out.2.1
              have A3 := RowAt.below A2 hW3 (by omega)
              have hB3 : Below w.heap.size w w3 := hB2.trans (hW3.mono (by omega))
              have hl3 : w.heap.size + 1 ≤ w3.heap.size := Nat.le_trans hl2 hW3.size
              clear hdt hW3 A2 hB2 hl2
              go_wp2_with fail
              refine (lbTimes_any n _ HTX.out (b := ⟨#[49]⟩) (D := 1) ⟨rfl, rfl⟩ (by have := HTX.out.size (k := 80) HD.out.2.2.2.1 (by omega); omega) (by decide) (by have := HD.out.2.2.2.2.2.1; omega) (by have := HD.out.2.2.2.2.2.1; omega)).mono ?_
              rintro e w4 ⟨⟨c, d, rfl, hc, hd⟩, hW4⟩
              have HCD := hideT' (And.intro hc hd)
              have A4 := RowAt.below A3 hW4 (by omega)
              have hB4 : Below w.heap.size w w4 := hB3.trans (hW4.mono (by omega))
              have hl4 : w.heap.size + 1 ≤ w4.heap.size := Nat.le_trans hl3 hW4.size
              have htop : rval 10 (a ++ b).data.toList * 10 ^ n.toNat < 10 ^ 180 := ten_mulR 80 100 180 HD.out.2.2.2.1 (by have := HD.out.2.2.2.2.2.1; omega) (.inl rfl)
              have hbot : 1 * 10 ^ (-n).toNat < 10 ^ 180 := ten_mulR 1 150 180 (by decide) (by have := HD.out.2.2.2.2.2.1; omega) (.inr (by omega))
              have HTB := hideT' (And.intro htop hbot)
              clear hc hd hW4 A3 hB3 hl3 htop hbot
              go_wp2_with fail
              refine (lbOfT ng _ HCD.out.1 HCD.out.2 (by have := HCD.out.1.size (k := 180) HTB.out.1 (by omega); omega) (by have := HCD.out.2.size (k := 180) HTB.out.2 (by omega); omega) (ten_two60 (j := 1000) HTB.out.1 (by omega)) (by rw [Nat.one_mul]; exact Nat.ne_of_gt (Nat.pow_pos (by decide)))).mono ?_
              rintro e w5 ⟨⟨R, z, rfl, hR, hz5⟩, hW5⟩
              subst hz5
              have A5 := RowAt.below A4 hW5 (by omega)
              have hB5 : Below w.heap.size w w5 := hB4.trans (hW5.mono (by omega))
              have HA : Hid (ReadAns s.data.toList (.returned (.tuple #[.agg #[.bool ng, .int .i64 (manOf R : Nat), .int .i64 (expOf R)], .bool true]))) := by
                refine .inr (.inr ⟨HI.out, a.data.toList, b.data.toList, v, R, by rw [← HT.out]; exact HD.out.1, ?_, by rw [HNG.out]⟩)
                have h1 := HD.out.2.2.2.2.1
                rw [HD.out.2.2.2.2.2.2.2, ← h1]
                unfold topR botR
                rw [← HD.out.2.2.1]
                exact hR
              clear hR hW5 A4 hB4
              go_wp2_with (with_reducible refine wpList_idR ?_; refine store_3 rfl 23 _ _ rfl rfl zero_real.2 w.heap.size _ rfl (real_one _ _ _) rfl rfl _ rfl A5 ?_; intro w9 hR9 hg9 hs9)
              exact bodyPost_ret (res_real_tmp Tryd.results7 _ _ w.heap.size _ _ _ _ rfl rfl hR9) rfl ⟨HA.out, hB5.grown hg9 hB5.size (by intro k hk; cases hk; omega)⟩

set_option maxHeartbeats 1000000 in
theorem specReadReal_any (s : ByteArray) (w : World) (hs : s.size ≤ maxLen) :
    Calls Tryd.prog 4 #[.string s] w fun e w' => ReadAns s.data.toList e ∧ Below w.heap.size w w' := by
  have hz := zero_real.1
  have A := RowAt.new w 23 #[.bool false, .int .i64 0, .int .i64 0]
  have hB : Below w.heap.size w (w.alloc (.cells #[.bool false, .int .i64 0, .int .i64 0] 23)) := (Below.refl _ _).alloc (Nat.le_refl _) _
  go_enter Tryd.func4, Tryd.ntmps4
  go_wp2_with fail
  refine (lbRead_any s _ hs).mono ?_
  rintro e w1 ⟨hA, hW1⟩
  obtain ⟨x, y, z, d, rfl, _⟩ := hA.same hA
  have HA := hideT' hA
  have A1 := RowAt.below A hW1 (by simp)
  have hB1 : Below w.heap.size w w1 := hB.trans (hW1.mono (by simp))
  clear A hB hA
  go_wp2_with (with_reducible refine wpList_idR ?_; refine store_3 rfl 23 _ _ rfl rfl zero_real.2 w.heap.size _ rfl (real_one _ _ _) rfl rfl _ rfl A1 ?_; intro w9 hR9 hg9 hs9)
  exact bodyPost_ret (res_real_tmp Tryd.results4 _ _ w.heap.size _ _ _ _ rfl rfl hR9) rfl ⟨HA.out, hB1.grown hg9 hB1.size (by intro k hk; cases hk; omega)⟩
end Go.Proofs.YtoiegaggekgmjaaDoor
