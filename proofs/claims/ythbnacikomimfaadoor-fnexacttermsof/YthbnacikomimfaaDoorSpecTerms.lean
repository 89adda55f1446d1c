/-
  What spec.laTerms and spec.TermsOf answer.
-/
import Derived.Test.YthbnacikomimfaaDoorEuMath
import Derived.Test.YthbnacikomimfaaDoorPkSpecParts
import Derived.Test.YthbnacikomimfaaDoorPkImplMake
namespace Go.Proofs.YthbnacikomimfaaDoor
open Go.RowKit
set_option linter.unusedVariables false

theorem tx48 : Tx ⟨#[48]⟩ 0 := ⟨by decide, by decide⟩
theorem tx49 : Tx ⟨#[49]⟩ 1 := ⟨by decide, by decide⟩
theorem Tx.is48 {s : ByteArray} {n : Nat} (h : Tx s n) : s = ⟨#[48]⟩ ↔ n = 0 := by
  constructor
  · rintro rfl; exact h.2.symm.trans tx48.2
  · rintro rfl; exact h.inj tx48
theorem goodTx {a : ByteArray} {n : Nat} (h : goodB a.data.toList = true) (hv : dval a.data.toList = n) : Tx a n ∧ a.size ≤ 600 := by
  have h1 := (Bool.and_eq_true_iff.1 (show (decide (a.data.toList.length ≤ 600) && canonB a.data.toList) = true from h))
  refine ⟨⟨h1.2, hv⟩, ?_⟩
  have h2 := of_decide_eq_true h1.1
  rw [Array.length_toList] at h2
  exact h2
theorem TxT.lt {s : ByteArray} {n k : Nat} (h : Tx s n) (hk : s.size ≤ k) : n < 10 ^ k := by
  have h1 := (canon_len_le h.1 s.data.toList.length (by
    have := canon_all h.1
    rcases Nat.eq_zero_or_pos s.data.toList.length with h0 | h0
    · have e : s.data.toList = [] := List.length_eq_zero_iff.1 h0
      have hc := h.1
      rw [e] at hc; cases hc
    · exact h0)).1 (Nat.le_refl _)
  rw [h.2, Array.length_toList] at h1
  exact Nat.lt_of_lt_of_le h1 (Nat.pow_le_pow_right (by decide) hk)
theorem Tx.size' {s : ByteArray} {n m : Nat} (h : Tx s n) (hnm : n ≤ m) {u : ByteArray} (hu : Tx u m) (h6 : u.size ≤ 600) : s.size ≤ 600 :=
  h.size (k := 600) (Nat.lt_of_le_of_lt hnm (TxT.lt (k := 600) hu h6)) (by decide)
theorem one_lt10 (k : Nat) (hk : k ≠ 0) : 1 < 10 ^ k := Nat.one_lt_pow hk (by decide)
/-- The first term's text. -/
theorem first_text {g : Bool} {q : ByteArray} {Q : Nat} (hq : Tx q Q) (h6 : q.size ≤ 600) (hg : g = true → Q ≠ 0) {e : Ending} (h : TellsN (g && decide (dval q.data.toList ≠ 0)) (dval q.data.toList / Nat.gcd (dval q.data.toList) (dval (⟨#[49]⟩ : ByteArray).data.toList)) (dval (⟨#[49]⟩ : ByteArray).data.toList / Nat.gcd (dval q.data.toList) (dval (⟨#[49]⟩ : ByteArray).data.toList)) e) :
    ∃ (s : ByteArray) (o : Bool), e = .returned (.tuple #[.string s, .bool o]) ∧ s = tmB (g, Q) := by
  have e1 : dval (⟨#[49]⟩ : ByteArray).data.toList = 1 := tx49.2
  rw [e1, hq.2, Nat.gcd_one_right, Nat.div_one, Nat.div_one] at h
  have eg : (g && decide (Q ≠ 0)) = g := by
    cases g with
    | false => rfl
    | true => rw [decide_eq_true (hg rfl)]; rfl
  rw [eg] at h
  obtain ⟨s, he, h1, _⟩ := h
  refine ⟨s, _, he, tmB_num (h1 ?_)⟩
  exact Bool.and_eq_true_iff.2 ⟨decide_eq_true (TxT.lt (k := 600) hq h6), decide_eq_true (one_lt10 600 (by decide))⟩
/-- What laTerms answers. -/
def LaAns (w : World) (L : List (Bool × Nat)) (e : Ending) (w' : World) : Prop :=
  (L.length ≤ 300 ∧ ∃ v, e = .returned (.tuple #[v, .bool true]) ∧ TmS w' w.heap.size v L) ∨ (¬ L.length ≤ 300 ∧ ∃ v, e = .returned (.tuple #[v, .bool false]))
theorem one_newT (w : World) (s : ByteArray) : ∀ j u, ([Value.string s] : List Value)[j]? = some u → (w.alloc (.cells #[.string s] 9)).cell? ((⟨w.heap.size, 0, none⟩ : Addr).add j) = some u := one_new w s

set_option maxHeartbeats 8000000 in
set_option maxRecDepth 100000 in
theorem laTerms_any (s : ByteArray) (w : World) (hs : s.size ≤ maxLen) (hok : okN s.data.toList = true) :
    Calls Tryd.prog 42 #[.string s] w fun e w' => LaAns w (trm (negN s.data.toList) (topN s.data.toList) (botN s.data.toList)) e w' ∧ Below w.heap.size w w' := by
  obtain ⟨i0, hi0, hz0, hz1, hz2⟩ := str_info
  obtain ⟨L, hL⟩ : ∃ L, L = trm (negN s.data.toList) (topN s.data.toList) (botN s.data.toList) := ⟨_, rfl⟩
  rw [← hL]
  have HL := hideT' hL
  have HOK := hideT' hok
  clear hL hok
  go_enter Tryd.func42, Tryd.ntmps42
  go_wp2_with fail
  refine (l2Parts_any s _ hs).mono ?_
  rintro e w1 ⟨⟨g, t, u, rfl, hP⟩, hB1⟩
  obtain ⟨hg, gt, vt, gu, vu⟩ := hP HOK.out
  obtain ⟨tt, st⟩ := goodTx gt vt
  obtain ⟨tu, su⟩ := goodTx gu vu
  have hD0 : botN s.data.toList ≠ 0 := okN_bot' HOK.out
  have hN0 : g = true → topN s.data.toList ≠ 0 := fun h => okN_neg' HOK.out (hg.symm.trans h)
  rw [← hg] at HL
  obtain ⟨N, hN⟩ : ∃ N, N = topN s.data.toList := ⟨_, rfl⟩
  obtain ⟨D, hD⟩ : ∃ D, D = botN s.data.toList := ⟨_, rfl⟩
  rw [← hN] at HL tt hN0
  rw [← hD] at HL tu hD0
  have HT := hideT' (And.intro tt (And.intro tu (And.intro hD0 hN0)))
  clear hP hg gt vt gu vu tt tu hD0 hN0 hN hD HOK
  go_wp2_with fail
  refine (divT w1 HT.out.1 HT.out.2.1 (by omega) (by omega) HT.out.2.2.1).mono ?_
  rintro e w2 ⟨q, r, rfl, tq, tr, hB2'⟩
  have hB2 : Below w.heap.size w w2 := hB1.trans (hB2'.mono hB1.size)
  have sq := tq.size' (Nat.div_le_self _ _) HT.out.1 st
  have sr := tr.size' (Nat.le_of_lt (Nat.mod_lt _ (Nat.pos_of_ne_zero HT.out.2.2.1))) HT.out.2.1 su
  have HQ := hideT' (And.intro tq tr)
  clear tq tr hB1 hB2'
  cases g with
  | false =>
    have hB3 := hB2
    obtain ⟨F, hF⟩ : ∃ F, F = flo false N D := ⟨_, rfl⟩
    obtain ⟨R, hR⟩ : ∃ R, R = rem0 false N D := ⟨_, rfl⟩
    have HF : Hid (Tx q F ∧ Tx r R ∧ R < D ∧ (false = true → F ≠ 0) ∧ L = (false, F) :: (eu D R).map (fun x => (false, x))) := by
      unfold Hid
      refine ⟨by rw [hF]; exact (by unfold flo; simpa using HQ.out.1), by rw [hR]; exact (by unfold rem0; simpa using HQ.out.2), by rw [hR]; exact rem0_lt HT.out.2.2.1, fun h => ?_, by rw [HL.out, hF, hR]; rfl⟩
      cases h
    clear hF hR
    go_wp2_with fail
    refine (l2Make_any false q ⟨#[49]⟩ w2 (by omega) (by decide) HF.out.1.1 tx49.1 (by rw [tx49.2]; decide)).mono ?_
    rintro e w4 ⟨hTl, hB4'⟩
    obtain ⟨fs, of, rfl, hfs⟩ := first_text HF.out.1 sq (fun h => by cases h) hTl
    have hB4 : Below w.heap.size w w4 := hB3.trans (hB4'.mono hB3.size)
    have hs4 := hB4.size
    have HFS := hideT' hfs
    clear hTl hB4' hfs
    go_wp2_with (at_builtin; refine wpList_append_own _ rfl _ _ 25 rfl w.heap.size 9 i0 (.string ⟨#[]⟩) 1 16 Tryd.underlying25 hi0 hz0 hz1 hz2 rfl (by decide) _ _ _ rfl ((TmS.own (TmS.nil w4 w.heap.size)).alloc _) ⟨w4.heap.size, 0, none⟩ 1 1 [.string fs] rfl rfl (one_new _ _) (str_one _) (by simp; unfold maxLen; omega) (by simp) (by simp; omega) ?_; intro ra qa hOa hGa _)
    have hVa : Below w.heap.size w qa := (hB4.alloc hs4 _).grown hGa (by simp; omega) (fun k hk => TmS.ge (TmS.nil w4 w.heap.size) hk)
    have HTm := hideT' (TmS.put (l := []) hOa rfl (false, F) HFS.out rfl)
    clear hOa hGa hB4 hs4
    go_loopg [5, 6, 8, 9, 10] (R) (fun gk v5 v6 v8 v9 v10 wr => ∃ (D2 R2 : Nat) (pre : List (Bool × Nat)) (xu xr : ByteArray) (y5 y9 : ByteArray), gk = R2 ∧ v5 = .string y5 ∧ v9 = .string y9 ∧ v6 = .string xu ∧ v10 = .string xr ∧ xu.size ≤ 600 ∧ xr.size ≤ 600 ∧ pre.length ≤ 301 ∧ Hid (Tx xu D2 ∧ Tx xr R2 ∧ R2 < D2 ∧ L = pre ++ (eu D2 R2).map (fun x => (false, x))) ∧ Hid (TmS wr w.heap.size v8 pre) ∧ Hid (Below w.heap.size w wr))
    case atStart => exact ⟨D, R, [(false, F)], u, r, _, _, rfl, rfl, rfl, rfl, rfl, su, sr, by simp, ⟨HT.out.2.1, HF.out.2.1, HF.out.2.2.1, HF.out.2.2.2.2⟩, HTm.out, hVa⟩
    case round =>
      obtain ⟨D2, R2, pre, xu, xr, y5, y9, hgk, rfl, rfl, rfl, rfl, sxu, sxr, hpl, HS, HR, HBL⟩ := hrel
      have hlen := (TmS.own HR.out)
      obtain ⟨o8, c8, rfl⟩ : ∃ o c, u8 = .slice o pre.length c := by
        have h := HR.out
        rcases h.2 with ⟨h1, h2⟩ | ⟨gb, cap, cur, h1, _⟩
        · refine ⟨none, 0, ?_⟩
          have : pre.length = 0 := by simpa using h2
          rw [this]; exact h1
        · exact ⟨some ⟨gb, 0, none⟩, cap, by rw [h1, List.length_map]⟩
      have hbl := HBL.out.size
      clear hlen
      by_cases hxr : xr = ⟨#[48]⟩
      · have HLL : Hid (L = pre) := by
          unfold Hid
          rw [HS.out.2.2.2, (HS.out.2.1.is48.1 hxr), eu_zero]; simp
        by_cases hp : (pre.length : Int) ≤ 300
        · have HA : Hid (LaAns w L (.returned (.tuple #[.slice o8 pre.length c8, .bool true])) wr) := .inl ⟨by rw [HLL.out]; omega, _, rfl, by rw [HLL.out]; exact HR.out⟩
          subst hxr
          go_wp2
          go_ret2
          exact ⟨HA.out, HBL.out⟩
        · have HA : Hid (LaAns w L (.returned (.tuple #[.slice o8 pre.length c8, .bool false])) wr) := .inr ⟨by rw [HLL.out]; omega, _, rfl⟩
          subst hxr
          go_wp2
          go_ret2
          exact ⟨HA.out, HBL.out⟩
      · have hR2 : R2 ≠ 0 := fun h => hxr (HS.out.2.1.is48.2 h)
        have hxz : (xr.toList == [48]) = false := str_ne (fun h => hxr (WideShapes.bytes_inj h))
        by_cases hp : (pre.length : Int) ≤ 300
        · have HR2 := hideT' hR2
          have HG := hideT' hgk
          clear hR2 hgk
          go_wp2_with fail
          refine (divT wr HS.out.1 HS.out.2.1 (by omega) (by omega) HR2.out).mono ?_
          rintro e w5 ⟨q5, r5, rfl, tq5, tr5, hB5'⟩
          have hB5 : Below w.heap.size w w5 := HBL.out.trans (hB5'.mono hbl)
          have sr5 := tr5.size' (Nat.le_of_lt (Nat.mod_lt _ (Nat.pos_of_ne_zero HR2.out))) HS.out.2.1 sxr
          have HR5 := hideT' (TmS.below HR.out hB5' (Nat.le_refl _))
          have hs5 := hB5.size
          have HQ5 : Hid (q5 = tmB (false, D2 / R2) ∧ Tx r5 (D2 % R2)) := ⟨tmB_tx tq5, tr5⟩
          clear tq5 tr5 hB5'
          go_wp2_with (at_builtin; refine wpList_append_own _ rfl _ _ 25 rfl w.heap.size 9 i0 (.string ⟨#[]⟩) 1 16 Tryd.underlying25 hi0 hz0 hz1 hz2 rfl (by decide) _ _ _ (by rfl) (by have h := (TmS.own HR5.out).alloc (.cells #[.string q5] 9); rw [List.length_map] at h; exact h) ⟨w5.heap.size, 0, none⟩ 1 1 [.string q5] rfl rfl (one_new _ _) (str_one _) (by unfold maxLen; omega) (by omega) (by simp; omega) ?_; intro rb qb hOb hGb _)
          have hVb : Below w.heap.size w qb := (hB5.alloc hs5 _).grown hGb (by simp; omega) (fun k hk => TmS.ge HR5.out hk)
          go_roundg (D2 % R2)
          case measure => have := HG.out; have := Nat.mod_lt D2 (Nat.pos_of_ne_zero HR2.out); omega
          case rel => exact ⟨R2, D2 % R2, pre ++ [(false, D2 / R2)], xr, r5, _, _, rfl, rfl, rfl, rfl, rfl, sxr, sr5, by simp; omega, ⟨HS.out.2.1, HQ5.out.2, Nat.mod_lt _ (Nat.pos_of_ne_zero HR2.out), by rw [HS.out.2.2.2, eu_pos HR2.out]; simp⟩, TmS.put hOb (by rw [List.length_map]) _ HQ5.out.1 rfl, hVb⟩
        · have HA : Hid (LaAns w L (.returned (.tuple #[.slice o8 pre.length c8, .bool false])) wr) := by
            refine .inr ⟨?_, _, rfl⟩
            rw [HS.out.2.2.2, List.length_append]
            omega
          clear hR2
          go_wp2
          go_ret2
          exact ⟨HA.out, HBL.out⟩
  | true =>
    by_cases hr : r = ⟨#[48]⟩
    · have hB3 := hB2
      have hm0 : N % D = 0 := HQ.out.2.is48.1 hr
      subst hr
      obtain ⟨F, hF⟩ : ∃ F, F = flo true N D := ⟨_, rfl⟩
      obtain ⟨R, hR⟩ : ∃ R, R = rem0 true N D := ⟨_, rfl⟩
      have HF : Hid (Tx q F ∧ Tx (⟨#[48]⟩ : ByteArray) R ∧ R < D ∧ (true = true → F ≠ 0) ∧ L = (true, F) :: (eu D R).map (fun x => (false, x))) := by
        unfold Hid
        refine ⟨by rw [hF]; exact (by unfold flo; rw [hm0]; simpa using HQ.out.1), by rw [hR]; exact (by unfold rem0; rw [hm0]; simpa using tx48), by rw [hR]; exact rem0_lt HT.out.2.2.1, fun h => ?_, by rw [HL.out, hF, hR]; rfl⟩
        rw [hF]; exact flo_ne HT.out.2.2.1 (HT.out.2.2.2 (by trivial))
      clear hF hR hm0
      go_wp2_with fail
      refine (l2Make_any true q ⟨#[49]⟩ w2 (by omega) (by decide) HF.out.1.1 tx49.1 (by rw [tx49.2]; decide)).mono ?_
      rintro e w4 ⟨hTl, hB4'⟩
      obtain ⟨fs, of, rfl, hfs⟩ := first_text HF.out.1 sq (fun _ => HF.out.2.2.2.1 (by trivial)) hTl
      have hB4 : Below w.heap.size w w4 := hB3.trans (hB4'.mono hB3.size)
      have hs4 := hB4.size
      have HFS := hideT' hfs
      clear hTl hB4' hfs
      go_wp2_with (at_builtin; refine wpList_append_own _ rfl _ _ 25 rfl w.heap.size 9 i0 (.string ⟨#[]⟩) 1 16 Tryd.underlying25 hi0 hz0 hz1 hz2 rfl (by decide) _ _ _ rfl ((TmS.own (TmS.nil w4 w.heap.size)).alloc _) ⟨w4.heap.size, 0, none⟩ 1 1 [.string fs] rfl rfl (one_new _ _) (str_one _) (by simp; unfold maxLen; omega) (by simp) (by simp; omega) ?_; intro ra qa hOa hGa _)
      have hVa : Below w.heap.size w qa := (hB4.alloc hs4 _).grown hGa (by simp; omega) (fun k hk => TmS.ge (TmS.nil w4 w.heap.size) hk)
      have HTm := hideT' (TmS.put (l := []) hOa rfl (true, F) HFS.out rfl)
      clear hOa hGa hB4 hs4
      go_loopg [5, 6, 8, 9, 10] (R) (fun gk v5 v6 v8 v9 v10 wr => ∃ (D2 R2 : Nat) (pre : List (Bool × Nat)) (xu xr : ByteArray) (y5 y9 : ByteArray), gk = R2 ∧ v5 = .string y5 ∧ v9 = .string y9 ∧ v6 = .string xu ∧ v10 = .string xr ∧ xu.size ≤ 600 ∧ xr.size ≤ 600 ∧ pre.length ≤ 301 ∧ Hid (Tx xu D2 ∧ Tx xr R2 ∧ R2 < D2 ∧ L = pre ++ (eu D2 R2).map (fun x => (false, x))) ∧ Hid (TmS wr w.heap.size v8 pre) ∧ Hid (Below w.heap.size w wr))
      case atStart => exact ⟨D, R, [(true, F)], u, (⟨#[48]⟩ : ByteArray), _, _, rfl, rfl, rfl, rfl, rfl, su, (by decide), by simp, ⟨HT.out.2.1, HF.out.2.1, HF.out.2.2.1, HF.out.2.2.2.2⟩, HTm.out, hVa⟩
      case round =>
        obtain ⟨D2, R2, pre, xu, xr, y5, y9, hgk, rfl, rfl, rfl, rfl, sxu, sxr, hpl, HS, HR, HBL⟩ := hrel
        have hlen := (TmS.own HR.out)
        obtain ⟨o8, c8, rfl⟩ : ∃ o c, u8 = .slice o pre.length c := by
          have h := HR.out
          rcases h.2 with ⟨h1, h2⟩ | ⟨gb, cap, cur, h1, _⟩
          · refine ⟨none, 0, ?_⟩
            have : pre.length = 0 := by simpa using h2
            rw [this]; exact h1
          · exact ⟨some ⟨gb, 0, none⟩, cap, by rw [h1, List.length_map]⟩
        have hbl := HBL.out.size
        clear hlen
        by_cases hxr : xr = ⟨#[48]⟩
        · have HLL : Hid (L = pre) := by
            unfold Hid
            rw [HS.out.2.2.2, (HS.out.2.1.is48.1 hxr), eu_zero]; simp
          by_cases hp : (pre.length : Int) ≤ 300
          · have HA : Hid (LaAns w L (.returned (.tuple #[.slice o8 pre.length c8, .bool true])) wr) := .inl ⟨by rw [HLL.out]; omega, _, rfl, by rw [HLL.out]; exact HR.out⟩
            subst hxr
            go_wp2
            go_ret2
            exact ⟨HA.out, HBL.out⟩
          · have HA : Hid (LaAns w L (.returned (.tuple #[.slice o8 pre.length c8, .bool false])) wr) := .inr ⟨by rw [HLL.out]; omega, _, rfl⟩
            subst hxr
            go_wp2
            go_ret2
            exact ⟨HA.out, HBL.out⟩
        · have hR2 : R2 ≠ 0 := fun h => hxr (HS.out.2.1.is48.2 h)
          have hxz : (xr.toList == [48]) = false := str_ne (fun h => hxr (WideShapes.bytes_inj h))
          by_cases hp : (pre.length : Int) ≤ 300
          · have HR2 := hideT' hR2
            have HG := hideT' hgk
            clear hR2 hgk
            go_wp2_with fail
            refine (divT wr HS.out.1 HS.out.2.1 (by omega) (by omega) HR2.out).mono ?_
            rintro e w5 ⟨q5, r5, rfl, tq5, tr5, hB5'⟩
            have hB5 : Below w.heap.size w w5 := HBL.out.trans (hB5'.mono hbl)
            have sr5 := tr5.size' (Nat.le_of_lt (Nat.mod_lt _ (Nat.pos_of_ne_zero HR2.out))) HS.out.2.1 sxr
            have HR5 := hideT' (TmS.below HR.out hB5' (Nat.le_refl _))
            have hs5 := hB5.size
            have HQ5 : Hid (q5 = tmB (false, D2 / R2) ∧ Tx r5 (D2 % R2)) := ⟨tmB_tx tq5, tr5⟩
            clear tq5 tr5 hB5'
            go_wp2_with (at_builtin; refine wpList_append_own _ rfl _ _ 25 rfl w.heap.size 9 i0 (.string ⟨#[]⟩) 1 16 Tryd.underlying25 hi0 hz0 hz1 hz2 rfl (by decide) _ _ _ (by rfl) (by have h := (TmS.own HR5.out).alloc (.cells #[.string q5] 9); rw [List.length_map] at h; exact h) ⟨w5.heap.size, 0, none⟩ 1 1 [.string q5] rfl rfl (one_new _ _) (str_one _) (by unfold maxLen; omega) (by omega) (by simp; omega) ?_; intro rb qb hOb hGb _)
            have hVb : Below w.heap.size w qb := (hB5.alloc hs5 _).grown hGb (by simp; omega) (fun k hk => TmS.ge HR5.out hk)
            go_roundg (D2 % R2)
            case measure => have := HG.out; have := Nat.mod_lt D2 (Nat.pos_of_ne_zero HR2.out); omega
            case rel => exact ⟨R2, D2 % R2, pre ++ [(false, D2 / R2)], xr, r5, _, _, rfl, rfl, rfl, rfl, rfl, sxr, sr5, by simp; omega, ⟨HS.out.2.1, HQ5.out.2, Nat.mod_lt _ (Nat.pos_of_ne_zero HR2.out), by rw [HS.out.2.2.2, eu_pos HR2.out]; simp⟩, TmS.put hOb (by rw [List.length_map]) _ HQ5.out.1 rfl, hVb⟩
          · have HA : Hid (LaAns w L (.returned (.tuple #[.slice o8 pre.length c8, .bool false])) wr) := by
              refine .inr ⟨?_, _, rfl⟩
              rw [HS.out.2.2.2, List.length_append]
              omega
            clear hR2
            go_wp2
            go_ret2
            exact ⟨HA.out, HBL.out⟩
    · have hm0 : N % D ≠ 0 := fun h => hr (HQ.out.2.is48.2 h)
      have hrz : (r.toList == [48]) = false := str_ne (fun h => hr (WideShapes.bytes_inj h))
      go_wp2_with fail
      refine (addT w2 HQ.out.1 tx49 (by omega) (by decide)).mono ?_
      rintro e wa ⟨q1, rfl, tq1, hBa⟩
      have hB2a : Below w.heap.size w wa := hB2.trans (hBa.mono hB2.size)
      have hflo : flo true N D = N / D + 1 := by unfold flo; rw [decide_eq_true hm0]; rfl
      have hrem : rem0 true N D = D - N % D := by unfold rem0; rw [decide_eq_true hm0]; rfl
      have HQ1 : Hid (Tx q1 (flo true N D)) := by unfold Hid; rw [hflo]; exact tq1
      have sq1 := HQ1.out.size' (flo_le (fun _ => HT.out.2.2.2 (by trivial))) HT.out.1 st
      clear tq1 hBa
      go_wp2_with fail
      refine (subT wa HT.out.2.1 HQ.out.2 (by omega) (by omega) (Nat.le_of_lt (Nat.mod_lt _ (Nat.pos_of_ne_zero HT.out.2.2.1)))).mono ?_
      rintro e wb ⟨r1, rfl, tr1, hBb⟩
      have hB3 : Below w.heap.size w wb := hB2a.trans (hBb.mono hB2a.size)
      have HR1 : Hid (Tx r1 (rem0 true N D)) := by unfold Hid; rw [hrem]; exact tr1
      have sr1 := HR1.out.size' (Nat.le_of_lt (rem0_lt HT.out.2.2.1)) HT.out.2.1 su
      clear tr1 hBb hB2a hB2 hflo hrem
      obtain ⟨F, hF⟩ : ∃ F, F = flo true N D := ⟨_, rfl⟩
      obtain ⟨R, hR⟩ : ∃ R, R = rem0 true N D := ⟨_, rfl⟩
      have HF : Hid (Tx q1 F ∧ Tx r1 R ∧ R < D ∧ (true = true → F ≠ 0) ∧ L = (true, F) :: (eu D R).map (fun x => (false, x))) := by
        unfold Hid
        refine ⟨by rw [hF]; exact HQ1.out, by rw [hR]; exact HR1.out, by rw [hR]; exact rem0_lt HT.out.2.2.1, fun h => ?_, by rw [HL.out, hF, hR]; rfl⟩
        rw [hF]; exact flo_ne HT.out.2.2.1 (HT.out.2.2.2 (by trivial))
      clear hF hR
      go_wp2_with fail
      refine (l2Make_any true q1 ⟨#[49]⟩ wb (by omega) (by decide) HF.out.1.1 tx49.1 (by rw [tx49.2]; decide)).mono ?_
      rintro e w4 ⟨hTl, hB4'⟩
      obtain ⟨fs, of, rfl, hfs⟩ := first_text HF.out.1 sq1 (fun _ => HF.out.2.2.2.1 (by trivial)) hTl
      have hB4 : Below w.heap.size w w4 := hB3.trans (hB4'.mono hB3.size)
      have hs4 := hB4.size
      have HFS := hideT' hfs
      clear hTl hB4' hfs
      go_wp2_with (at_builtin; refine wpList_append_own _ rfl _ _ 25 rfl w.heap.size 9 i0 (.string ⟨#[]⟩) 1 16 Tryd.underlying25 hi0 hz0 hz1 hz2 rfl (by decide) _ _ _ rfl ((TmS.own (TmS.nil w4 w.heap.size)).alloc _) ⟨w4.heap.size, 0, none⟩ 1 1 [.string fs] rfl rfl (one_new _ _) (str_one _) (by simp; unfold maxLen; omega) (by simp) (by simp; omega) ?_; intro ra qa hOa hGa _)
      have hVa : Below w.heap.size w qa := (hB4.alloc hs4 _).grown hGa (by simp; omega) (fun k hk => TmS.ge (TmS.nil w4 w.heap.size) hk)
      have HTm := hideT' (TmS.put (l := []) hOa rfl (true, F) HFS.out rfl)
      clear hOa hGa hB4 hs4
      go_loopg [5, 6, 8, 9, 10] (R) (fun gk v5 v6 v8 v9 v10 wr => ∃ (D2 R2 : Nat) (pre : List (Bool × Nat)) (xu xr : ByteArray) (y5 y9 : ByteArray), gk = R2 ∧ v5 = .string y5 ∧ v9 = .string y9 ∧ v6 = .string xu ∧ v10 = .string xr ∧ xu.size ≤ 600 ∧ xr.size ≤ 600 ∧ pre.length ≤ 301 ∧ Hid (Tx xu D2 ∧ Tx xr R2 ∧ R2 < D2 ∧ L = pre ++ (eu D2 R2).map (fun x => (false, x))) ∧ Hid (TmS wr w.heap.size v8 pre) ∧ Hid (Below w.heap.size w wr))
      case atStart => exact ⟨D, R, [(true, F)], u, r1, _, _, rfl, rfl, rfl, rfl, rfl, su, sr1, by simp, ⟨HT.out.2.1, HF.out.2.1, HF.out.2.2.1, HF.out.2.2.2.2⟩, HTm.out, hVa⟩
      case round =>
        obtain ⟨D2, R2, pre, xu, xr, y5, y9, hgk, rfl, rfl, rfl, rfl, sxu, sxr, hpl, HS, HR, HBL⟩ := hrel
        have hlen := (TmS.own HR.out)
        obtain ⟨o8, c8, rfl⟩ : ∃ o c, u8 = .slice o pre.length c := by
          have h := HR.out
          rcases h.2 with ⟨h1, h2⟩ | ⟨gb, cap, cur, h1, _⟩
          · refine ⟨none, 0, ?_⟩
            have : pre.length = 0 := by simpa using h2
            rw [this]; exact h1
          · exact ⟨some ⟨gb, 0, none⟩, cap, by rw [h1, List.length_map]⟩
        have hbl := HBL.out.size
        clear hlen
        by_cases hxr : xr = ⟨#[48]⟩
        · have HLL : Hid (L = pre) := by
            unfold Hid
            rw [HS.out.2.2.2, (HS.out.2.1.is48.1 hxr), eu_zero]; simp
          by_cases hp : (pre.length : Int) ≤ 300
          · have HA : Hid (LaAns w L (.returned (.tuple #[.slice o8 pre.length c8, .bool true])) wr) := .inl ⟨by rw [HLL.out]; omega, _, rfl, by rw [HLL.out]; exact HR.out⟩
            subst hxr
            go_wp2
            go_ret2
            exact ⟨HA.out, HBL.out⟩
          · have HA : Hid (LaAns w L (.returned (.tuple #[.slice o8 pre.length c8, .bool false])) wr) := .inr ⟨by rw [HLL.out]; omega, _, rfl⟩
            subst hxr
            go_wp2
            go_ret2
            exact ⟨HA.out, HBL.out⟩
        · have hR2 : R2 ≠ 0 := fun h => hxr (HS.out.2.1.is48.2 h)
          have hxz : (xr.toList == [48]) = false := str_ne (fun h => hxr (WideShapes.bytes_inj h))
          by_cases hp : (pre.length : Int) ≤ 300
          · have HR2 := hideT' hR2
            have HG := hideT' hgk
            clear hR2 hgk
            go_wp2_with fail
            refine (divT wr HS.out.1 HS.out.2.1 (by omega) (by omega) HR2.out).mono ?_
            rintro e w5 ⟨q5, r5, rfl, tq5, tr5, hB5'⟩
            have hB5 : Below w.heap.size w w5 := HBL.out.trans (hB5'.mono hbl)
            have sr5 := tr5.size' (Nat.le_of_lt (Nat.mod_lt _ (Nat.pos_of_ne_zero HR2.out))) HS.out.2.1 sxr
            have HR5 := hideT' (TmS.below HR.out hB5' (Nat.le_refl _))
            have hs5 := hB5.size
            have HQ5 : Hid (q5 = tmB (false, D2 / R2) ∧ Tx r5 (D2 % R2)) := ⟨tmB_tx tq5, tr5⟩
            clear tq5 tr5 hB5'
            go_wp2_with (at_builtin; refine wpList_append_own _ rfl _ _ 25 rfl w.heap.size 9 i0 (.string ⟨#[]⟩) 1 16 Tryd.underlying25 hi0 hz0 hz1 hz2 rfl (by decide) _ _ _ (by rfl) (by have h := (TmS.own HR5.out).alloc (.cells #[.string q5] 9); rw [List.length_map] at h; exact h) ⟨w5.heap.size, 0, none⟩ 1 1 [.string q5] rfl rfl (one_new _ _) (str_one _) (by unfold maxLen; omega) (by omega) (by simp; omega) ?_; intro rb qb hOb hGb _)
            have hVb : Below w.heap.size w qb := (hB5.alloc hs5 _).grown hGb (by simp; omega) (fun k hk => TmS.ge HR5.out hk)
            go_roundg (D2 % R2)
            case measure => have := HG.out; have := Nat.mod_lt D2 (Nat.pos_of_ne_zero HR2.out); omega
            case rel => exact ⟨R2, D2 % R2, pre ++ [(false, D2 / R2)], xr, r5, _, _, rfl, rfl, rfl, rfl, rfl, sxr, sr5, by simp; omega, ⟨HS.out.2.1, HQ5.out.2, Nat.mod_lt _ (Nat.pos_of_ne_zero HR2.out), by rw [HS.out.2.2.2, eu_pos HR2.out]; simp⟩, TmS.put hOb (by rw [List.length_map]) _ HQ5.out.1 rfl, hVb⟩
          · have HA : Hid (LaAns w L (.returned (.tuple #[.slice o8 pre.length c8, .bool false])) wr) := by
              refine .inr ⟨?_, _, rfl⟩
              rw [HS.out.2.2.2, List.length_append]
              omega
            clear hR2
            go_wp2
            go_ret2
            exact ⟨HA.out, HBL.out⟩

set_option maxHeartbeats 2000000 in
set_option maxRecDepth 100000 in
theorem specTerms_any (s : ByteArray) (w : World) (hs : s.size ≤ maxLen) :
    Calls Tryd.prog 13 #[.string s] w fun e w' => TmAns s w e w' ∧ Below w.heap.size w w' := by
  cases hok : okN s.data.toList with
  | false =>
    have HA : Hid (∀ w', TmAns s w (.returned (.tuple #[.slice none 0 0, .bool false])) w') := fun w' => .inr ⟨by unfold tmOk; rw [hok]; rfl, rfl⟩
    go_enter Tryd.func13, Tryd.ntmps13
    go_wp2_with fail
    refine (specGoodNum_any s _ hs).mono ?_
    rintro e w1 ⟨rfl, hB1⟩
    rw [hok]
    clear hok
    go_wp2
    go_ret2
    exact ⟨HA.out _, hB1⟩
  | true =>
    have HOK := hideT' hok
    go_enter Tryd.func13, Tryd.ntmps13
    go_wp2_with fail
    refine (specGoodNum_any s _ hs).mono ?_
    rintro e w1 ⟨rfl, hB1⟩
    rw [hok]
    clear hok
    go_wp2_with fail
    refine (laTerms_any s w1 hs HOK.out).mono ?_
    rintro e w2 ⟨hA, hB2⟩
    have hBB : Below w.heap.size w w2 := hB1.trans (hB2.mono hB1.size)
    rcases hA with ⟨hl, v, rfl, hT⟩ | ⟨hl, v, rfl⟩
    · have HA : Hid (TmAns s w (.returned (.tuple #[v, .bool true])) w2) := .inl ⟨by unfold tmOk; rw [HOK.out, decide_eq_true hl]; rfl, v, rfl, hT.1, by
        rcases hT.2 with h | ⟨gb, cap, cur, h1, h2, h3⟩
        · exact .inl h
        · exact .inr ⟨gb, cap, cur, h1, Nat.le_trans hB1.size h2, h3⟩⟩
      clear hl hT hB1 hB2
      go_wp2
      go_ret2
      exact ⟨HA.out, hBB⟩
    · have HA : Hid (∀ w', TmAns s w (.returned (.tuple #[.slice none 0 0, .bool false])) w') := fun w' => .inr ⟨by unfold tmOk; rw [HOK.out, decide_eq_false hl]; rfl, rfl⟩
      clear hl hB1 hB2
      go_wp2
      go_ret2
      exact ⟨HA.out _, hBB⟩
end Go.Proofs.YthbnacikomimfaaDoor
