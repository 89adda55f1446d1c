/-
  What impl.FactorNat answers.
-/
import Derived.Test.YtmfpnbmfcoahbaaDoorSpecFac
import Derived.Test.YtmfpnbmfcoahbaaDoorAtoiX
import Derived.Test.YtmfpnbmfcoahbaaDoorText
namespace Go.Proofs.YtmfpnbmfcoahbaaDoor
open Go.RowKit
set_option linter.unusedVariables false

theorem itoaX (x : Int) (m : Nat) (w : World) (hx : x = (m : Int)) (hm : x ≤ 1000000000000) (hT : Tab w.heap.size w) :
    Calls Tryd.prog 52 #[.int .i64 x] w fun e w' => e = .returned (.string (numB (m : Int))) ∧ Below w.heap.size w w' := by
  subst hx
  refine (Tryd.strconv_Itoa (m : Int) (by omega) (by omega) w hT.here).mono ?_
  rintro e w2 ⟨rfl, kk, os, hw2⟩
  have hgr : w.grownBy w2 none := by rw [hw2]; exact grown_grow _ _ _
  exact ⟨rfl, (Below.refl _ _).grown hgr (Nat.le_refl _) (by intro k hk; cases hk)⟩

set_option maxHeartbeats 4000000 in
set_option maxRecDepth 100000 in
theorem implFactor_any (a : ByteArray) (w0 : World) (hsa : a.size ≤ 1048576) (hT : Tab w0.heap.size w0) (hE : EV w0) :
    Calls Tryd.prog 17 #[.string a] w0 fun e w' => FacAns a w0 e w' ∧ Below w0.heap.size w0 w' := by
  have no : facOk a = false → Hid (∀ w', FacAns a w0 (.returned (.tuple #[.slice none 0 0, .bool false])) w') := fun h w' => .inr ⟨h, rfl⟩
  have HNO := hideT' no
  have HT := hideT' hT
  have HE := hideT' hE
  clear no hT hE
  go_enter Tryd.func17, Tryd.ntmps17
  go_wp2_with fail
  refine (atoiX_any a _ hsa HE.out).mono ?_
  rintro e w ⟨⟨v, E, b, rfl, hcase⟩, hB⟩
  rcases hcase with ⟨rfl, rfl, hok⟩ | ⟨rfl, ⟨tp, p, rfl⟩, herr⟩
  · have HO := hideT' hok
    clear hok
    go_wp2_with fail
    refine (implGood_any a _ (by unfold maxLen; omega)).mono ?_
    rintro e w' ⟨rfl, rfl⟩
    cases hg : goodB a.data.toList with
    | false =>
      have HN := HNO.out (by unfold facOk; rw [hg]; rfl)
      clear hg
      go_wp2
      go_ret2
      exact ⟨HN.out _, hB⟩
    | true =>
      have HX0 : Hid (v = (dval a.data.toList : Int)) := atoi_any (good_canon hg) HO.out
      have HFK : Hid (facOk a = (decide (2 ≤ dval a.data.toList) && decide (dval a.data.toList ≤ 1000000000000))) := by unfold Hid facOk; rw [hg]; rfl
      have HG := hideT' hg
      clear hg HO
      by_cases hb0 : 2 ≤ v
      · by_cases hb1 : v ≤ 1000000000000
        · obtain ⟨N, hN⟩ : ∃ N, N = dval a.data.toList := ⟨_, rfl⟩
          obtain ⟨X, hXv⟩ : ∃ X, X = v := ⟨_, rfl⟩
          subst hXv
          have HX : Hid (X = (N : Int)) := by unfold Hid; rw [hN]; exact HX0.out
          have HN : Hid (N ≤ 1000000000000) := by have := HX.out; unfold Hid; omega
          have HOK : Hid (facOk a = true) := by
            unfold Hid; rw [HFK.out, ← hN, decide_eq_true (by have := HX.out; omega), decide_eq_true HN.out]; rfl
          have HN2 := hideT' hN
          have HTT : Hid (∀ wx, Below w0.heap.size w0 wx → Tab wx.heap.size wx) := fun wx h => (HT.out.on h).up h.size
          have HB0 := hideT' hB
          clear hN HX0 HFK HNO
          obtain ⟨i0, hi0, hz0, hz1, hz2⟩ := str_info
          go_wp2_with fail
          go_loopg [4, 6, 7] 1000000 (fun g vn va vb wr => ∃ (n q : Nat) (x y : Int) (l : List Nat), g = 1000002 - q ∧ vn = .int .i64 x ∧ vb = .int .i64 y ∧ Hid (x = (n : Int) ∧ y = (q : Int) ∧ 2 ≤ q ∧ q ≤ 1000001) ∧ 0 < x ∧ x ≤ 1000000000000 ∧ 2 ≤ y ∧ y ≤ 1000001 ∧ Hid (l ++ fac q n = fac 2 N ∧ 2 ^ l.length * n ≤ N ∧ N ≤ 1000000000000) ∧ Hid (Facs wr w0.heap.size va l) ∧ Hid (Below w0.heap.size w0 wr))
          case atStart => exact ⟨N, 2, X, 2, [], rfl, rfl, rfl, ⟨HX.out, rfl, by omega, by omega⟩, by omega, by omega, by omega, by omega, ⟨rfl, by simp, HN.out⟩, Facs.nil _ _, HB0.out⟩
          case round =>
            obtain ⟨n, q, x, y, l, hg, rfl, rfl, HXY, hx0, hx1, hy0, hy1, HL, HF, HBL⟩ := hrel
            obtain ⟨z, hz⟩ : ∃ z : Int, y * y = z := ⟨_, rfl⟩
            have hzq : Hid (z = ((q * q : Nat) : Int)) := by unfold Hid; rw [← hz, HXY.out.2.1]; simp
            have hzb : 0 ≤ z ∧ z ≤ 1000002000001 := by
              have h1 := Nat.mul_le_mul HXY.out.2.2.2 HXY.out.2.2.2
              have := hzq.out
              omega
            obtain ⟨hzb0, hzb1⟩ := hzb
            have hwz : IntKind.i64.wrap z = z := by rw [IntKind.wrap_i64]; omega
            have hyy : (y == 0) = false := by simp; omega
            have hyn : y ≠ 0 := by omega
            by_cases hle : z ≤ x
            · have HLE : Hid (q * q ≤ n) := by have h1 := hzq.out; have h2 := HXY.out.1; unfold Hid; omega
              have hq6 : q ≤ 1000000 := root_6 HLE.out (by have := HXY.out.1; omega)
              have HQ := hideT' (And.intro hq6 hg)
              clear hg hq6
              go_wp2_with fail
              go_loopg [4, 6] n (fun g vn va wi => ∃ (m : Nat) (u : Int) (k : List Nat), g = m ∧ vn = .int .i64 u ∧ Hid (u = (m : Int)) ∧ 0 < u ∧ u ≤ 1000000000000 ∧ Hid (k ++ ((inn q m).1 ++ fac (q + 1) (inn q m).2) = fac 2 N ∧ 2 ^ k.length * m ≤ N ∧ N ≤ 1000000000000) ∧ Hid (Facs wi w0.heap.size va k) ∧ Hid (Below w0.heap.size w0 wi))
              case atStart =>
                refine ⟨n, x, l, rfl, rfl, HXY.out.1, hx0, hx1, ⟨?_, HL.out.2⟩, HF, HBL⟩
                rw [← fac_yes HXY.out.2.2.1 HLE.out]; exact HL.out.1
              case round =>
                obtain ⟨m, u, k, hgm, rfl, HU, hu0, hu1, HK, HFk, HBI⟩ := hrel
                have hbi := HBI.out.size
                by_cases hd : m % q = 0
                · have htm : u.tmod y = 0 := by rw [Int.tmod_eq_emod_of_nonneg (by omega), HU.out, HXY.out.2.1]; exact_mod_cast hd
                  obtain ⟨u2, hu2⟩ : ∃ u2, u.tdiv y = u2 := ⟨_, rfl⟩
                  have HU2 : Hid (u2 = ((m / q : Nat) : Int)) := by unfold Hid; rw [← hu2, Int.tdiv_eq_ediv_of_nonneg (by omega), HU.out, HXY.out.2.1]; simp
                  have hm0 : 0 < m := by have := HU.out; omega
                  have hlt : m / q < m := Nat.div_lt_self hm0 (by have := HXY.out.2.2.1; omega)
                  have hpo := div_pos_of HXY.out.2.2.1 hm0 hd
                  have hub : 0 < u2 ∧ u2 ≤ 1000000000000 := by have h1 := HU2.out; have h2 := HU.out; omega
                  obtain ⟨hub0, hub1⟩ := hub
                  have hwu : IntKind.i64.wrap u2 = u2 := by rw [IntKind.wrap_i64]; omega
                  have HK2 : Hid ((k ++ [q]) ++ ((inn q (m / q)).1 ++ fac (q + 1) (inn q (m / q)).2) = fac 2 N ∧ 2 ^ (k ++ [q]).length * (m / q) ≤ N ∧ N ≤ 1000000000000) := by
                    have h1 := HK.out
                    rw [inn_yes HXY.out.2.2.1 hm0 hd] at h1
                    refine ⟨by rw [← h1.1]; simp, ?_, h1.2.2⟩
                    rw [List.length_append, List.length_singleton]; exact half_div HXY.out.2.2.1 h1.2.1
                  have hfk := few HK.out.2.1 hm0 HK.out.2.2
                  have HLT := hideT' hlt
                  have HGM := hideT' hgm
                  clear hd hm0 hlt hpo HK hgm
                  go_wp2_with fail
                  refine (itoaX y q _ HXY.out.2.1 (by omega) (HTT.out _ HBI.out)).mono ?_
                  rintro e pa ⟨rfl, hPa⟩
                  have hBa : Below w0.heap.size w0 pa := HBI.out.trans (hPa.mono HBI.out.size)
                  have HFa := hideT' (Facs.below HFk.out hPa (Nat.le_refl _))
                  have hsa := hBa.size
                  clear hPa
                  go_wp2_with (at_builtin; refine wpList_append_own _ rfl _ _ 31 rfl w0.heap.size 9 i0 (.string ⟨#[]⟩) 1 16 Tryd.underlying31 hi0 hz0 hz1 hz2 rfl (by decide) _ _ _ rfl ((Facs.own HFa.out).alloc _) ⟨pa.heap.size, 0, none⟩ 1 1 [.string (numB (q : Int))] rfl rfl (one_new _ _) (str_one _) (by have := txL_few k; unfold maxLen; omega) (by have := txL_few k; omega) (by simp; omega) ?_; intro ra qa hOa hGa _)
                  have hVa : Below w0.heap.size w0 qa := (hBa.alloc hsa _).grown hGa (by simp; omega) (fun k hk => Facs.ge HFa.out hk)
                  go_roundg (m / q)
                  case measure => have := HGM.out; have := HLT.out; omega
                  case rel => exact ⟨m / q, u2, k ++ [q], rfl, by first | rfl | (congr 1; omega), HU2, hub0, hub1, HK2, Facs.put hOa rfl q rfl, hVa⟩
                · obtain ⟨r, hr⟩ : ∃ r, u.tmod y = r := ⟨_, rfl⟩
                  have hrb : 0 ≤ r ∧ r < y ∧ r ≠ 0 := by
                    rw [← hr, Int.tmod_eq_emod_of_nonneg (by omega)]
                    refine ⟨Int.emod_nonneg _ hyn, Int.emod_lt_of_pos _ (by omega), fun h => hd ?_⟩
                    rw [HU.out, HXY.out.2.1] at h; exact_mod_cast h
                  obtain ⟨hr0, hr1, hr2⟩ := hrb
                  have hrf : (r == 0) = false := by simpa using hr2
                  have hwr : IntKind.i64.wrap r = r := by rw [IntKind.wrap_i64]; omega
                  have HK2 : Hid (k ++ fac (q + 1) m = fac 2 N ∧ 2 ^ k.length * m ≤ N ∧ N ≤ 1000000000000) := by
                    have h1 := HK.out
                    rw [inn_no hd] at h1
                    exact h1
                  have hwy : IntKind.i64.wrap (y + 1) = y + 1 := by rw [IntKind.wrap_i64]; omega
                  clear hd HK hgm
                  go_wp2
                  go_roundg (1000002 - (q + 1))
                  case measure => have := HQ.out; omega
                  case rel => exact ⟨m, q + 1, u, y + 1, k, rfl, rfl, rfl, ⟨HU.out, by have := HXY.out.2.1; omega, by have := HXY.out.2.2.1; omega, by have := HQ.out.1; omega⟩, hu0, hu1, by omega, by have h1 := HQ.out.1; have h2 := HXY.out.2.1; omega, HK2, HFk, HBI⟩
            · have HNO : Hid (¬ q * q ≤ n) := by have h1 := hzq.out; have h2 := HXY.out.1; unfold Hid; omega
              by_cases h1n : 1 < x
              · have HE : Hid (l ++ [n] = fac 2 N) := by
                  have h1 := HL.out.1
                  rw [fac_no HNO.out, if_pos (by have := HXY.out.1; omega)] at h1
                  exact h1
                have hfl := few HL.out.2.1 (by have := HXY.out.1; omega) HL.out.2.2
                have hbl := HBL.out.size
                clear hg
                go_wp2_with fail
                refine (itoaX x n _ HXY.out.1 (by omega) (HTT.out _ HBL.out)).mono ?_
                rintro e pb ⟨rfl, hPb⟩
                have hBb : Below w0.heap.size w0 pb := HBL.out.trans (hPb.mono HBL.out.size)
                have HFb := hideT' (Facs.below HF.out hPb (Nat.le_refl _))
                have hsb := hBb.size
                clear hPb
                go_wp2_with (at_builtin; refine wpList_append_own _ rfl _ _ 31 rfl w0.heap.size 9 i0 (.string ⟨#[]⟩) 1 16 Tryd.underlying31 hi0 hz0 hz1 hz2 rfl (by decide) _ _ _ rfl ((Facs.own HFb.out).alloc _) ⟨pb.heap.size, 0, none⟩ 1 1 [.string (numB (n : Int))] rfl rfl (one_new _ _) (str_one _) (by have := txL_few l; unfold maxLen; omega) (by have := txL_few l; omega) (by simp; omega) ?_; intro rb qb hOb hGb _)
                have hVb : Below w0.heap.size w0 qb := (hBb.alloc hsb _).grown hGb (by simp; omega) (fun k hk => Facs.ge HFb.out hk)
                go_ret2
                refine ⟨FacAns.yes HOK.out ⟨N, HN2.out, _, rfl, ?_⟩, hVb⟩
                rw [← HE.out]
                exact Facs.put hOb rfl n rfl
              · have HE : Hid (l = fac 2 N) := by
                  have h1 := HL.out.1
                  rw [fac_no HNO.out, if_neg (by have := HXY.out.1; omega), List.append_nil] at h1
                  exact h1
                clear hg
                go_wp2
                go_ret2
                refine ⟨FacAns.yes HOK.out ⟨N, HN2.out, _, rfl, ?_⟩, HBL.out⟩
                rw [← HE.out]
                exact HF.out
        · have HN := HNO.out (by rw [HFK.out]; have := HX0.out; rw [decide_eq_false (show ¬ dval a.data.toList ≤ 1000000000000 by omega), Bool.and_false])
          go_wp2
          go_ret2
          exact ⟨HN.out _, hB⟩
      · have HN := HNO.out (by rw [HFK.out]; have := HX0.out; rw [decide_eq_false (show ¬ 2 ≤ dval a.data.toList by omega), Bool.false_and])
        go_wp2
        go_ret2
        exact ⟨HN.out _, hB⟩
  · have HN := HNO.out (by
      unfold facOk
      cases hg : goodB a.data.toList with
      | false => rfl
      | true =>
        rw [Bool.true_and]
        by_cases h : dval a.data.toList ≤ 1000000000000
        · exact absurd (atoi_small (good_canon hg) (by have : (10 : Nat) ^ 18 = 1000000000000000000 := by decide
                                                       omega)) (herr _)
        · rw [decide_eq_false h, Bool.and_false])
    clear herr
    go_wp2
    go_ret2
    exact ⟨HN.out _, hB⟩
end Go.Proofs.YtmfpnbmfcoahbaaDoor
