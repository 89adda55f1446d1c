/-
  What spec.laSmall and spec.FactorNat answer.
-/
import Derived.Test.YtmfpnbmfcoahbaaDoorFacRow
import Derived.Test.YtmfpnbmfcoahbaaDoorPkGood
import Derived.Test.YtmfpnbmfcoahbaaDoorPkSpecText
import Derived.Test.YtmfpnbmfcoahbaaDoorL1In
import Derived.Test.YtmfpnbmfcoahbaaDoorPkSpecAdd
namespace Go.Proofs.YtmfpnbmfcoahbaaDoor
open Go.RowKit
set_option linter.unusedVariables false

/-- May a be told by factors? -/
def facOk (a : ByteArray) : Bool := goodB a.data.toList && (decide (2 ≤ dval a.data.toList) && decide (dval a.data.toList ≤ 1000000000000))
/-- What FactorNat answers: the row in new memory. -/
def FacAns (a : ByteArray) (w : World) (e : Ending) (w' : World) : Prop :=
  (facOk a = true ∧ ∃ v, e = .returned (.tuple #[v, .bool true]) ∧ Facs w' w.heap.size v (fac 2 (dval a.data.toList))) ∨ (facOk a = false ∧ e = .returned (.tuple #[.slice none 0 0, .bool false]))
theorem FacAns.yes {a : ByteArray} {w w' : World} {e : Ending} (h : facOk a = true) (hh : ∃ N, N = dval a.data.toList ∧ ∃ v, e = .returned (.tuple #[v, .bool true]) ∧ Facs w' w.heap.size v (fac 2 N)) : FacAns a w e w' := by
  obtain ⟨N, rfl, hv⟩ := hh
  exact .inl ⟨h, hv⟩
theorem Facs.own {w : World} {B : Nat} {v : Value} {l : List Nat} (h : Facs w B v l) : w.ownsRow B 9 1 v (txL l).length ((txL l).flatMap stringL) := h
theorem Facs.ge {w : World} {B k : Nat} {v : Value} {l : List Nat} (h : Facs w B v l) (hk : v.ownBlock = some k) : B ≤ k := by
  rcases h.2 with ⟨h1, _⟩ | ⟨g, cap, cur, h1, h2, _⟩
  · rw [h1] at hk; simp [Value.ownBlock] at hk
  · rw [h1] at hk; simp [Value.ownBlock] at hk; omega
theorem txL_few (l : List Nat) : (txL l).length = l.length := by simp [txL]
theorem numX (x : Int) (m : Nat) (w : World) (hx : x = (m : Int)) (hm : x ≤ 1000000000000) :
    Calls Tryd.prog 54 #[.int .i64 x] w fun e w' => e = .returned (.string (numB (m : Int))) ∧ Below w.heap.size w w' := by
  subst hx
  exact l1NumN_any m (by omega) w

set_option maxHeartbeats 1000000 in
set_option maxRecDepth 100000 in
theorem laSmall_any (s : ByteArray) (w : World) (hs : s.size ≤ 13) (hd : s.data.toList.all isDig = true) :
    Calls Tryd.prog 53 #[.string s] w fun e w' => (∃ x : Int, e = .returned (.int .i64 x) ∧ Hid (x = (dval s.data.toList : Int))) ∧ w' = w := by
  have HD := hideT' hd
  clear hd
  go_enter Tryd.func53, Tryd.ntmps53
  go_wp2
  go_loopg [3, 4] s.size (fun g vn vi wr => ∃ (j : Nat) (n : Int), g = s.size - j ∧ j ≤ s.size ∧ vn = .int .i64 n ∧ vi = .int .i64 (j : Int) ∧ 0 ≤ n ∧ n ≤ 10000000000000 ∧ Hid (n = (dval (s.data.toList.take j) : Int)) ∧ wr = w)
  case atStart => exact ⟨0, 0, rfl, Nat.zero_le _, rfl, rfl, by omega, by omega, rfl, rfl⟩
  case round =>
    obtain ⟨j, n, hg, hj, rfl, rfl, hn0, hn1, HN, rfl⟩ := hrel
    by_cases hlt : (j : Int) < (s.size : Int)
    · have hjl : j < s.size := by omega
      have hdj : isDig s[j] = true := List.all_eq_true.1 HD.out _ (by have := getN j hjl; exact List.mem_of_getElem? this)
      obtain ⟨hb0, hb1⟩ := isDig_bd hdj
      obtain ⟨c, hc⟩ : ∃ c : Int, c = (s[j].toNat : Int) := ⟨_, rfl⟩
      have hc0 : 48 ≤ c ∧ c ≤ 57 := by omega
      obtain ⟨hc0, hc1⟩ := hc0
      obtain ⟨y, hy⟩ : ∃ y, 10 * n = y := ⟨_, rfl⟩
      have hlow : Hid (n ≤ 999999999999) := by
        have h1 := dval_lt (s.data.toList.take j) (by rw [List.all_eq_true]; intro x hx; exact List.all_eq_true.1 HD.out x (List.mem_of_mem_take hx))
        have h2 : (s.data.toList.take j).length ≤ 12 := by rw [List.length_take]; omega
        have h3 : 10 ^ (s.data.toList.take j).length ≤ 10 ^ 12 := Nat.pow_le_pow_right (by decide) h2
        have h4 : (10 : Nat) ^ 12 = 1000000000000 := by decide
        have := HN.out
        unfold Hid; omega
      have hlow' := hlow.out
      have hwy : IntKind.i64.wrap y = y := by rw [IntKind.wrap_i64]; omega
      have hw8 : IntKind.u8.wrap (c - 48) = c - 48 := by
        have : IntKind.u8.wrap (c - 48) = (c - 48) % 256 := by simp [IntKind.wrap, IntKind.signed, IntKind.bits]
        rw [this]; omega
      have hwc : IntKind.i64.wrap (c - 48) = c - 48 := by rw [IntKind.wrap_i64]; omega
      have hwz : IntKind.i64.wrap (y + (c - 48)) = y + (c - 48) := by rw [IntKind.wrap_i64]; omega
      have HV : Hid (y + (c - 48) = (dval (s.data.toList.take (j + 1)) : Int)) := by
        unfold Hid
        have hl : s.data.toList.length = s.size := by simp
        rw [List.take_succ_eq_append_getElem (by omega), dval_snoc]
        have e1 : s.data.toList[j]'(by omega) = s[j] := rfl
        rw [e1]
        have := HN.out
        unfold dv
        omega
      have hyb : 0 ≤ y ∧ y ≤ 9999999999990 := by omega
      obtain ⟨hyb0, hyb1⟩ := hyb
      go_wp2
      go_roundg (s.size - (j + 1))
      case measure => omega
      case rel => exact ⟨j + 1, y + (c - 48), rfl, by omega, by first | rfl | (congr 1; omega), by go_num, by omega, by omega, HV, rfl⟩
    · have HE : Hid (n = (dval s.data.toList : Int)) := by
        unfold Hid
        rw [HN.out, List.take_of_length_le (by simp; omega)]
      go_wp2
      go_ret
      exact ⟨⟨n, rfl, HE⟩, rfl⟩

set_option maxHeartbeats 4000000 in
set_option maxRecDepth 100000 in
theorem specFactor_any (a : ByteArray) (w : World) (hsa : a.size ≤ maxLen) :
    Calls Tryd.prog 18 #[.string a] w fun e w' => FacAns a w e w' ∧ Below w.heap.size w w' := by
  have no : facOk a = false → Hid (∀ w', FacAns a w (.returned (.tuple #[.slice none 0 0, .bool false])) w') := fun h w' => .inr ⟨h, rfl⟩
  cases hga : goodB a.data.toList with
  | false =>
    have HN := no (by unfold facOk; rw [hga]; rfl)
    have HG := hideT' hga
    clear no hga
    go_enter Tryd.func18, Tryd.ntmps18
    go_wp2_with fail
    refine (specGood_any a _ hsa).mono ?_
    rintro e w' ⟨rfl, rfl⟩
    rw [HG.out]
    go_wp2
    go_ret2
    exact ⟨HN.out _, Below.refl _ _⟩
  | true =>
    have HG := hideT' hga
    have hcan := good_canon hga
    have hal : a.data.toList.length = a.size := by simp
    by_cases hl : (a.size : Int) ≤ 13
    · have HD := hideT' (canon_all hcan)
      have HFK : Hid (facOk a = (decide (2 ≤ dval a.data.toList) && decide (dval a.data.toList ≤ 1000000000000))) := by unfold Hid facOk; rw [hga]; rfl
      have HNO := hideT' no
      clear no hga hcan hal
      go_enter Tryd.func18, Tryd.ntmps18
      go_wp2_with fail
      refine (specGood_any a _ hsa).mono ?_
      rintro e w' ⟨rfl, rfl⟩
      rw [HG.out]
      go_wp2_with fail
      refine (laSmall_any a _ (by omega) HD.out).mono ?_
      rintro e w' ⟨⟨X, rfl, HX0⟩, rfl⟩
      go_wp2_with fail
      refine (l1In_any X 2 1000000000000 _).mono ?_
      rintro e w' ⟨rfl, rfl⟩
      cases hin : (decide (2 ≤ X) && decide (X ≤ 1000000000000)) with
      | false =>
        have HN := HNO.out (by
          rw [HFK.out]
          have h1 := HX0.out
          rw [Bool.and_eq_false_iff] at hin ⊢
          rcases hin with h | h
          · left; have := of_decide_eq_false h; exact decide_eq_false (by omega)
          · right; have := of_decide_eq_false h; exact decide_eq_false (by omega))
        clear hin
        go_wp2
        go_ret2
        exact ⟨HN.out _, Below.refl _ _⟩
      | true =>
        have hb : 2 ≤ X ∧ X ≤ 1000000000000 := by simpa using hin
        obtain ⟨hb0, hb1⟩ := hb
        obtain ⟨N, hN⟩ : ∃ N, N = dval a.data.toList := ⟨_, rfl⟩
        have HX : Hid (X = (N : Int)) := by unfold Hid; rw [hN]; exact HX0.out
        have HN : Hid (N ≤ 1000000000000) := by have := HX.out; unfold Hid; omega
        have HOK : Hid (facOk a = true) := by
          unfold Hid; rw [HFK.out, ← hN, decide_eq_true (by have := HX.out; omega), decide_eq_true HN.out]; rfl
        have HN2 := hideT' hN
        have HB0 := hideT' (Below.refl w'.heap.size w')
        obtain ⟨w, rfl⟩ : ∃ w, w = w' := ⟨_, rfl⟩
        clear hin hN HX0 HFK HNO
        obtain ⟨i0, hi0, hz0, hz1, hz2⟩ := str_info
        go_wp2_with fail
        go_loopg [4, 5, 6] 1000000 (fun g vn va vb wr => ∃ (n q : Nat) (x y : Int) (l : List Nat), g = 1000002 - q ∧ vn = .int .i64 x ∧ vb = .int .i64 y ∧ Hid (x = (n : Int) ∧ y = (q : Int) ∧ 2 ≤ q ∧ q ≤ 1000001) ∧ 0 < x ∧ x ≤ 1000000000000 ∧ 2 ≤ y ∧ y ≤ 1000001 ∧ Hid (l ++ fac q n = fac 2 N ∧ 2 ^ l.length * n ≤ N ∧ N ≤ 1000000000000) ∧ Hid (Facs wr w.heap.size va l) ∧ Hid (Below w.heap.size w wr))
        case atStart => exact ⟨N, 2, X, 2, [], rfl, rfl, rfl, ⟨HX.out, rfl, by omega, by omega⟩, by omega, by omega, by omega, by omega, ⟨rfl, by simp, HN.out⟩, Facs.nil _ _, HB0.out⟩
        case round =>
          obtain ⟨n, q, x, y, l, hg, rfl, rfl, HXY, hx0, hx1, hy0, hy1, HL, HF, HBL⟩ := hrel
          obtain ⟨z, hz⟩ : ∃ z : Int, y * y = z := ⟨_, rfl⟩
          have hzq : Hid (z = ((q * q : Nat) : Int)) := by unfold Hid; rw [← hz, HXY.out.2.1]; simp
          have hzb : 0 ≤ z ∧ z ≤ 1000002000001 := by
            have h1 := Nat.mul_le_mul HXY.out.2.2.2 HXY.out.2.2.2
            have := hzq.out
            omega
          obtain ⟨hzb0, hzb1⟩ := hzb
          have hwz : IntKind.i64.wrap z = z := by rw [IntKind.wrap_i64]; omega
          have hyy : (y == 0) = false := by simp; omega
          have hyn : y ≠ 0 := by omega
          by_cases hle : z ≤ x
          · have HLE : Hid (q * q ≤ n) := by have h1 := hzq.out; have h2 := HXY.out.1; unfold Hid; omega
            have hq6 : q ≤ 1000000 := root_6 HLE.out (by have := HXY.out.1; omega)
            have HQ := hideT' (And.intro hq6 hg)
            clear hg hq6
            go_wp2_with fail
            go_loopg [4, 5] n (fun g vn va wi => ∃ (m : Nat) (u : Int) (k : List Nat), g = m ∧ vn = .int .i64 u ∧ Hid (u = (m : Int)) ∧ 0 < u ∧ u ≤ 1000000000000 ∧ Hid (k ++ ((inn q m).1 ++ fac (q + 1) (inn q m).2) = fac 2 N ∧ 2 ^ k.length * m ≤ N ∧ N ≤ 1000000000000) ∧ Hid (Facs wi w.heap.size va k) ∧ Hid (Below w.heap.size w wi))
            case atStart =>
              refine ⟨n, x, l, rfl, rfl, HXY.out.1, hx0, hx1, ⟨?_, HL.out.2⟩, HF, HBL⟩
              rw [← fac_yes HXY.out.2.2.1 HLE.out]; exact HL.out.1
            case round =>
              obtain ⟨m, u, k, hgm, rfl, HU, hu0, hu1, HK, HFk, HBI⟩ := hrel
              have hbi := HBI.out.size
              by_cases hd : m % q = 0
              · have htm : u.tmod y = 0 := by rw [Int.tmod_eq_emod_of_nonneg (by omega), HU.out, HXY.out.2.1]; exact_mod_cast hd
                obtain ⟨u2, hu2⟩ : ∃ u2, u.tdiv y = u2 := ⟨_, rfl⟩
                have HU2 : Hid (u2 = ((m / q : Nat) : Int)) := by unfold Hid; rw [← hu2, Int.tdiv_eq_ediv_of_nonneg (by omega), HU.out, HXY.out.2.1]; simp
                have hm0 : 0 < m := by have := HU.out; omega
                have hlt : m / q < m := Nat.div_lt_self hm0 (by have := HXY.out.2.2.1; omega)
                have hpo := div_pos_of HXY.out.2.2.1 hm0 hd
                have hub : 0 < u2 ∧ u2 ≤ 1000000000000 := by have h1 := HU2.out; have h2 := HU.out; omega
                obtain ⟨hub0, hub1⟩ := hub
                have hwu : IntKind.i64.wrap u2 = u2 := by rw [IntKind.wrap_i64]; omega
                have HK2 : Hid ((k ++ [q]) ++ ((inn q (m / q)).1 ++ fac (q + 1) (inn q (m / q)).2) = fac 2 N ∧ 2 ^ (k ++ [q]).length * (m / q) ≤ N ∧ N ≤ 1000000000000) := by
                  have h1 := HK.out
                  rw [inn_yes HXY.out.2.2.1 hm0 hd] at h1
                  refine ⟨by rw [← h1.1]; simp, ?_, h1.2.2⟩
                  rw [List.length_append, List.length_singleton]; exact half_div HXY.out.2.2.1 h1.2.1
                have hfk := few HK.out.2.1 hm0 HK.out.2.2
                have HLT := hideT' hlt
                have HGM := hideT' hgm
                clear hd hm0 hlt hpo HK hgm
                go_wp2_with fail
                refine (numX y q _ HXY.out.2.1 (by omega)).mono ?_
                rintro e pa ⟨rfl, hPa⟩
                have hBa : Below w.heap.size w pa := HBI.out.trans (hPa.mono HBI.out.size)
                have HFa := hideT' (Facs.below HFk.out hPa (Nat.le_refl _))
                have hsa := hBa.size
                clear hPa
                go_wp2_with (at_builtin; refine wpList_append_own _ rfl _ _ 31 rfl w.heap.size 9 i0 (.string ⟨#[]⟩) 1 16 Tryd.underlying31 hi0 hz0 hz1 hz2 rfl (by decide) _ _ _ rfl ((Facs.own HFa.out).alloc _) ⟨pa.heap.size, 0, none⟩ 1 1 [.string (numB (q : Int))] rfl rfl (one_new _ _) (str_one _) (by have := txL_few k; unfold maxLen; omega) (by have := txL_few k; omega) (by simp; omega) ?_; intro ra qa hOa hGa _)
                have hVa : Below w.heap.size w qa := (hBa.alloc hsa _).grown hGa (by simp; omega) (fun k hk => Facs.ge HFa.out hk)
                go_roundg (m / q)
                case measure => have := HGM.out; have := HLT.out; omega
                case rel => exact ⟨m / q, u2, k ++ [q], rfl, by first | rfl | (congr 1; omega), HU2, hub0, hub1, HK2, Facs.put hOa rfl q rfl, hVa⟩
              · obtain ⟨r, hr⟩ : ∃ r, u.tmod y = r := ⟨_, rfl⟩
                have hrb : 0 ≤ r ∧ r < y ∧ r ≠ 0 := by
                  rw [← hr, Int.tmod_eq_emod_of_nonneg (by omega)]
                  refine ⟨Int.emod_nonneg _ hyn, Int.emod_lt_of_pos _ (by omega), fun h => hd ?_⟩
                  rw [HU.out, HXY.out.2.1] at h; exact_mod_cast h
                obtain ⟨hr0, hr1, hr2⟩ := hrb
                have hrf : (r == 0) = false := by simpa using hr2
                have hwr : IntKind.i64.wrap r = r := by rw [IntKind.wrap_i64]; omega
                have HK2 : Hid (k ++ fac (q + 1) m = fac 2 N ∧ 2 ^ k.length * m ≤ N ∧ N ≤ 1000000000000) := by
                  have h1 := HK.out
                  rw [inn_no hd] at h1
                  exact h1
                have hwy : IntKind.i64.wrap (y + 1) = y + 1 := by rw [IntKind.wrap_i64]; omega
                clear hd HK hgm
                go_wp2
                go_roundg (1000002 - (q + 1))
                case measure => have := HQ.out; omega
                case rel => exact ⟨m, q + 1, u, y + 1, k, rfl, rfl, rfl, ⟨HU.out, by have := HXY.out.2.1; omega, by have := HXY.out.2.2.1; omega, by have := HQ.out.1; omega⟩, hu0, hu1, by omega, by have h1 := HQ.out.1; have h2 := HXY.out.2.1; omega, HK2, HFk, HBI⟩
          · have HNO : Hid (¬ q * q ≤ n) := by have h1 := hzq.out; have h2 := HXY.out.1; unfold Hid; omega
            by_cases h1n : 1 < x
            · have HE : Hid (l ++ [n] = fac 2 N) := by
                have h1 := HL.out.1
                rw [fac_no HNO.out, if_pos (by have := HXY.out.1; omega)] at h1
                exact h1
              have hfl := few HL.out.2.1 (by have := HXY.out.1; omega) HL.out.2.2
              have hbl := HBL.out.size
              clear hg
              go_wp2_with fail
              refine (numX x n _ HXY.out.1 (by omega)).mono ?_
              rintro e pb ⟨rfl, hPb⟩
              have hBb : Below w.heap.size w pb := HBL.out.trans (hPb.mono HBL.out.size)
              have HFb := hideT' (Facs.below HF.out hPb (Nat.le_refl _))
              have hsb := hBb.size
              clear hPb
              go_wp2_with (at_builtin; refine wpList_append_own _ rfl _ _ 31 rfl w.heap.size 9 i0 (.string ⟨#[]⟩) 1 16 Tryd.underlying31 hi0 hz0 hz1 hz2 rfl (by decide) _ _ _ rfl ((Facs.own HFb.out).alloc _) ⟨pb.heap.size, 0, none⟩ 1 1 [.string (numB (n : Int))] rfl rfl (one_new _ _) (str_one _) (by have := txL_few l; unfold maxLen; omega) (by have := txL_few l; omega) (by simp; omega) ?_; intro rb qb hOb hGb _)
              have hVb : Below w.heap.size w qb := (hBb.alloc hsb _).grown hGb (by simp; omega) (fun k hk => Facs.ge HFb.out hk)
              go_ret2
              refine ⟨FacAns.yes HOK.out ⟨N, HN2.out, _, rfl, ?_⟩, hVb⟩
              rw [← HE.out]
              exact Facs.put hOb rfl n rfl
            · have HE : Hid (l = fac 2 N) := by
                have h1 := HL.out.1
                rw [fac_no HNO.out, if_neg (by have := HXY.out.1; omega), List.append_nil] at h1
                exact h1
              clear hg
              go_wp2
              go_ret2
              refine ⟨FacAns.yes HOK.out ⟨N, HN2.out, _, rfl, ?_⟩, HBL.out⟩
              rw [← HE.out]
              exact HF.out
    · have HN := no (by
        unfold facOk
        have h1 : 1000000000000 < dval a.data.toList := by
          have h2 := canon_low hcan (by omega)
          have h3 : 10 ^ 13 ≤ 10 ^ (a.data.toList.length - 1) := Nat.pow_le_pow_right (by decide) (by omega)
          have h4 : (10 : Nat) ^ 13 = 10000000000000 := by decide
          omega
        rw [decide_eq_false (show ¬ dval a.data.toList ≤ 1000000000000 by omega), Bool.and_false, Bool.and_false])
      clear no hga hcan hal
      go_enter Tryd.func18, Tryd.ntmps18
      go_wp2_with fail
      refine (specGood_any a _ hsa).mono ?_
      rintro e w' ⟨rfl, rfl⟩
      rw [HG.out]
      go_wp2
      go_ret2
      exact ⟨HN.out _, Below.refl _ _⟩
end Go.Proofs.YtmfpnbmfcoahbaaDoor
