/-
  The texts SpecParts, GoodNum, one behind the other.
-/
import Derived.Test.YtmfpnbmfcoahbaaGreatDoorPkCutNum
import Derived.Test.YtmfpnbmfcoahbaaGreatDoorPkSpecSub
import Derived.Deep.CutBlock
import Derived.Deep.DeepCutAuto
import Derived.Test.YtmfpnbmfcoahbaaGreatDoorPkReadNumA

/-
  What spec.l2Parts answers.
-/
namespace Go.Proofs.YtmfpnbmfcoahbaaGreatDoor
open Go.RowKit
set_option linter.unusedVariables false

theorem results_tmp4 {fn : Func} {t u v x : Tmp} (h : fn.results = #[.tmp t, .tmp u, .tmp v, .tmp x]) (tmps : Array Value) (P : Program) (w : World) :
    (results fn tmps).run P w = .ok (.tuple #[tmps.getD t undef, tmps.getD u undef, tmps.getD v undef, tmps.getD x undef]) w := by
  simp [results, h]

/-- What l2Parts should hand back. -/
def PartsN (l : List UInt8) (e : Ending) : Prop := ∃ (g : Bool) (t u : ByteArray), e = .returned (.tuple #[.bool g, .string t, .string u, .bool (okN l)]) ∧
  (okN l = true → g = negN l ∧ goodB t.data.toList = true ∧ dval t.data.toList = topN l ∧ goodB u.data.toList = true ∧ dval u.data.toList = botN l)
theorem PartsN.no {l : List UInt8} (h : okN l = false) : PartsN l (.returned (.tuple #[.bool false, .string ⟨#[]⟩, .string ⟨#[]⟩, .bool false])) :=
  ⟨false, ⟨#[]⟩, ⟨#[]⟩, by rw [h], fun h' => by rw [h] at h'; cases h'⟩

/-- What the loop leaves. -/
def CutAt (l : List UInt8) (o u : ByteArray) : Prop := o.data.toList = overN l ∧ ((brokenN l = false ∧ u.data.toList = [49]) ∨ (brokenN l = true ∧ u.data.toList = underN l ∧ u.data.toList ≠ [48] ∧ u.data.toList ≠ [49]))

theorem neg_none {s : ByteArray} (h : ¬ 0 < s.size) : negN s.data.toList = false := by
  have h1 : s.data.toList.length = s.size := by simp
  have : s.data.toList = [] := List.length_eq_zero_iff.1 (by omega)
  rw [this]; rfl
theorem neg_some {s : ByteArray} (h : 0 < s.size) : negN s.data.toList = (s[0] == 45) := by
  unfold negN
  rw [List.head?_eq_getElem?, getN 0 h]; rfl

set_option maxHeartbeats 1000000 in
set_option maxRecDepth 100000 in
theorem l2Parts_any (s : ByteArray) (w : World) (hs : s.size ≤ maxLen) :
    Calls Tryz.prog 80 #[.string s] w fun e w' => PartsN s.data.toList e ∧ Below w.heap.size w w' := by
  unfold maxLen at hs
  go_enter Tryz.func80, Tryz.ntmps80
  go_upto_region 1 with fail
  go_cut [6] (fun x wx => x = .bool (negN s.data.toList) ∧ wx = w)
  case first =>
    by_cases h : 0 < s.size
    · have hn := neg_some h
      cases h45 : (s[0] == 45) with
      | true =>
        rw [h45] at hn
        have h45' : s[0].toNat = 45 := by rw [eq_of_beq h45]; rfl
        have HN := hideT' hn
        clear hn h45
        go_wp2
        go_meet
        case rel => exact ⟨by rw [HN.out], rfl⟩
      | false =>
        rw [h45] at hn
        have h45' : ((s[0].toNat : Int) == 45) = false := by
          rw [beq_eq_false_iff_ne] at h45 ⊢
          intro e; apply h45; exact UInt8.toNat_inj.1 (by simpa using (by omega : s[0].toNat = 45))
        have HN := hideT' hn
        clear hn h45
        go_wp2
        go_meet
        case rel => exact ⟨by rw [HN.out], rfl⟩
    · have HN := hideT' (neg_none h)
      go_wp2
      go_meet
      case rel => exact ⟨by rw [HN.out], rfl⟩
  case rest =>
    obtain ⟨rfl, rfl⟩ := hcut
    obtain ⟨ng, hng⟩ : ∃ ng, ng = negN s.data.toList := ⟨_, rfl⟩
    rw [← hng]
    have HNG := hideT' hng
    clear hng
    go_upto_if 18 with fail
    go_cut [0] (fun x wx => ∃ t : ByteArray, x = .string t ∧ Hid (t.data.toList = bodyN s.data.toList) ∧ t.size ≤ s.size ∧ wx = wc)
    case first =>
      cases ng with
      | true =>
        have hp : 0 < s.size := by
          by_cases h : 0 < s.size
          · exact h
          · have := neg_none h; rw [← HNG.out] at this; cases this
        have hp1 : (1 : Int) ≤ (s.size : Int) := by omega
        have HT : Hid ((s.extract 1 s.size).data.toList = bodyN s.data.toList) := by unfold Hid bodyN; rw [← HNG.out, if_pos rfl, ext_tail]; simp
        go_wp2
        go_meet
        case rel => exact ⟨s.extract 1 s.size, rfl, HT, by simp, rfl⟩
      | false =>
        have HT : Hid (s.data.toList = bodyN s.data.toList) := by unfold Hid bodyN; rw [← HNG.out]; rfl
        go_wp2
        go_meet
        case rel => exact ⟨s, rfl, HT, Nat.le_refl _, rfl⟩
    case rest =>
      obtain ⟨t, rfl, HT, hts, rfl⟩ := hcut
      have hts' : (t.size : Int) ≤ 9223372036854775807 := by omega
      go_upto_block 0 with fail
      go_cut [7, 8] (fun x y wx => ∃ o u : ByteArray, x = .string o ∧ y = .string u ∧ Hid (CutAt s.data.toList o u) ∧ o.size ≤ t.size ∧ (u.size ≤ 1 ∨ u.size ≤ t.size) ∧ wx = wc)
      case first =>
        go_wp2_with fail
        go_loopg [7, 8, 9] t.size (fun g x y i wr => ∃ k : Nat, g = t.size - k ∧ k ≤ t.size ∧ x = .string t ∧ y = .string ⟨#[49]⟩ ∧ i = .int .i64 (k : Int) ∧ Hid (∀ j, j < k → t.data.toList[j]? ≠ some 47) ∧ wr = wc)
        case atStart => exact ⟨0, rfl, Nat.zero_le _, rfl, rfl, rfl, fun j hj => by omega, rfl⟩
        case round =>
          obtain ⟨k, hg, hk, rfl, rfl, rfl, HK, rfl⟩ := hrel
          by_cases hlt : k < t.size
          · have hlt' : (k : Int) < (t.size : Int) := by omega
            by_cases h47 : t[k] = 47
            · have h47' : (t[k].toNat : Int) = 47 := by rw [h47]; rfl
              have hc := cut47_some t.data.toList k (by rw [getN k hlt, h47]) HK.out
              rw [HT.out] at hc
              obtain ⟨k1, hk1⟩ : ∃ k1, k1 = k + 1 := ⟨_, rfl⟩
              have hwk : IntKind.i64.wrap ((k : Int) + 1) = (k1 : Int) := by rw [IntKind.wrap_i64]; omega
              have hk1' : (k1 : Int) ≤ (t.size : Int) := by omega
              have HC : Hid ((t.extract 0 k).data.toList = overN s.data.toList ∧ (t.extract k1 t.size).data.toList = underN s.data.toList ∧ brokenN s.data.toList = true) := by
                unfold Hid overN underN brokenN
                rw [hc, ext_head, ext_tail, HT.out, hk1]; exact ⟨rfl, rfl, rfl⟩
              have hes : (t.extract 0 k).size ≤ t.size ∧ (t.extract k1 t.size).size ≤ t.size := by simp; omega
              have HES := hideT' hes
              clear hc hk1 h47 hes
              by_cases hu1 : (t.extract k1 t.size).data.toList = [49]
              · have hu1' : ((t.extract k1 t.size).toList == [49]) = true := str_eq hu1
                have HN : Hid (okN s.data.toList = false) := by
                  unfold Hid okN
                  rw [HC.out.2.2, ← HC.out.2.1, hu1]
                  simp [show dval [49] = 1 from by decide]
                clear hu1
                go_wp2
                (try simp only [Exit.inBlock, Exit.then]); refine bodyPost_ret (results_tmp4 rfl _ _ _) rfl ?_
                exact ⟨PartsN.no HN.out, Below.refl _ _⟩
              · have hu1' : ((t.extract k1 t.size).toList == [49]) = false := str_ne hu1
                by_cases hu0 : (t.extract k1 t.size).data.toList = [48]
                · have hu0' : ((t.extract k1 t.size).toList == [48]) = true := str_eq hu0
                  have HN : Hid (okN s.data.toList = false) := by
                    unfold Hid okN
                    rw [HC.out.2.2, ← HC.out.2.1, hu0]
                    simp [show dval [48] = 0 from by decide]
                  clear hu0 hu1
                  go_wp2
                  (try simp only [Exit.inBlock, Exit.then]); refine bodyPost_ret (results_tmp4 rfl _ _ _) rfl ?_
                  exact ⟨PartsN.no HN.out, Below.refl _ _⟩
                · have hu0' : ((t.extract k1 t.size).toList == [48]) = false := str_ne hu0
                  have HA : Hid (CutAt s.data.toList (t.extract 0 k) (t.extract k1 t.size)) := ⟨HC.out.1, .inr ⟨HC.out.2.2, HC.out.2.1, hu0, hu1⟩⟩
                  clear hu0 hu1
                  go_wp2
                  go_meet
                  case rel => exact ⟨_, _, rfl, rfl, HA, HES.out.1, .inr HES.out.2, rfl⟩
            · have h47' : ((t[k].toNat : Int) == 47) = false := by
                rw [beq_eq_false_iff_ne]
                intro e; apply h47; exact UInt8.toNat_inj.1 (by simpa using (by omega : t[k].toNat = 47))
              have HK2 : Hid (∀ j, j < k + 1 → t.data.toList[j]? ≠ some 47) := by
                intro j hj
                by_cases e : j = k
                · subst e; rw [getN j hlt]; intro h; exact h47 (by injection h)
                · exact HK.out j (by omega)
              clear h47
              go_wp2
              go_roundg (t.size - (k + 1))
              case measure => omega
              case rel => exact ⟨k + 1, rfl, by omega, rfl, rfl, by go_num, HK2, rfl⟩
          · have hc := cut47_none t.data.toList (fun j => by
              by_cases hj : j < t.size
              · exact HK.out j (by omega)
              · rw [List.getElem?_eq_none (by simp; omega)]; simp)
            rw [HT.out] at hc
            have HA : Hid (CutAt s.data.toList t ⟨#[49]⟩) := by
              refine ⟨by unfold overN; rw [hc, HT.out], .inl ⟨by unfold brokenN; rw [hc], rfl⟩⟩
            clear hc
            go_wp2
            go_meet
            case rel => exact ⟨t, ⟨#[49]⟩, rfl, rfl, HA, Nat.le_refl _, .inl (Nat.le_refl _), rfl⟩
      case rest =>
        obtain ⟨o, u, rfl, rfl, HC, hos, hus, rfl⟩ := hcut
        have hos' : o.size ≤ maxLen := by unfold maxLen; omega
        have hus' : u.size ≤ maxLen := by unfold maxLen; omega
        cases hg : (goodB o.data.toList && goodB u.data.toList) with
        | false =>
          have HG := hideT' hg
          have HN : Hid (okN s.data.toList = false) := by
            unfold Hid okN
            obtain ⟨h1, ⟨h2, h3⟩ | ⟨h2, h3, h4, h5⟩⟩ := HC.out
            · rw [h1, h3, show goodB [49] = true from by decide, Bool.and_true] at hg
              rw [hg]; rfl
            · rw [h1, h3, Bool.and_eq_false_iff] at hg
              rcases hg with hg | hg
              · rw [hg]; rfl
              · rw [hg, h2]; simp
          clear hg
          go_wp2_with fail
          refine (l1Both_any o u _ hos' hus').mono ?_
          rintro e w' ⟨rfl, rfl⟩
          rw [HG.out]
          go_wp2
          (try simp only [Exit.inBlock, Exit.then]); refine bodyPost_ret (results_tmp4 rfl _ _ _) rfl ?_
          exact ⟨PartsN.no HN.out, Below.refl _ _⟩
        | true =>
          have HG := hideT' hg
          have hgo : goodB o.data.toList = true := by have := HG.out; simp only [Bool.and_eq_true] at this; exact this.1
          have hgu : goodB u.data.toList = true := by have := HG.out; simp only [Bool.and_eq_true] at this; exact this.2
          have hlo : o.size ≤ 600 := by have := good_len hgo; simpa using this
          have hlu : u.size ≤ 600 := by have := good_len hgu; simpa using this
          have HGO := hideT' hgo
          have HGU := hideT' hgu
          clear hg hgo hgu
          by_cases h0 : ng = true ∧ o.data.toList = [48]
          · obtain ⟨h1, h0⟩ := h0
            subst h1
            have h0' : (o.toList == [48]) = true := str_eq h0
            have HN : Hid (okN s.data.toList = false) := by
              unfold Hid okN
              rw [← HC.out.1, h0, ← HNG.out]
              simp [show dval [48] = 0 from by decide]
            clear h0
            go_wp2_with fail
            refine (l1Both_any o u _ hos' hus').mono ?_
            rintro e w' ⟨rfl, rfl⟩
            rw [HG.out]
            go_wp2
            (try simp only [Exit.inBlock, Exit.then]); refine bodyPost_ret (results_tmp4 rfl _ _ _) rfl ?_
            exact ⟨PartsN.no HN.out, Below.refl _ _⟩
          · have HSG : Hid ((goodB (overN s.data.toList) && !(negN s.data.toList && decide (dval (overN s.data.toList) = 0))) = true) := by
              unfold Hid
              rw [← HC.out.1, HGO.out, ← HNG.out]
              cases ng with
              | false => rfl
              | true =>
                have : dval o.data.toList ≠ 0 := fun e => h0 ⟨rfl, (canon_zero (good_canon HGO.out)).1 e⟩
                simp [this]
            have h0' : ng = false ∨ (o.toList == [48]) = false := by
              cases ng with
              | false => exact .inl rfl
              | true => exact .inr (str_ne (fun e => h0 ⟨rfl, e⟩))
            clear h0
            by_cases hu1 : u.data.toList = [49]
            · have hu1' : (u.toList == [49]) = true := str_eq hu1
              have HB : Hid (brokenN s.data.toList = false) := by
                obtain ⟨h1, ⟨h2, h3⟩ | ⟨h2, h3, h4, h5⟩⟩ := HC.out
                · exact h2
                · exact absurd hu1 h5
              have HN : Hid (okN s.data.toList = true) := by
                unfold Hid okN
                rw [HSG.out, HB.out]; rfl
              have HY : Hid (PartsN s.data.toList (.returned (.tuple #[.bool ng, .string o, .string u, .bool true]))) := ⟨ng, o, u, by rw [HN.out], fun _ => ⟨HNG.out, HGO.out, by unfold topN; rw [HC.out.1], HGU.out, by unfold botN; rw [HB.out, hu1, if_neg (by decide)]; decide⟩⟩
              clear hu1
              rcases h0' with h0' | h0'
              · subst h0'
                go_wp2_with fail
                refine (l1Both_any o u _ hos' hus').mono ?_
                rintro e w' ⟨rfl, rfl⟩
                rw [HG.out]
                go_wp2
                (try simp only [Exit.inBlock, Exit.then]); refine bodyPost_ret (results_tmp4 rfl _ _ _) rfl ?_
                exact ⟨HY.out, Below.refl _ _⟩
              · cases ng with
                | false =>
                  go_wp2_with fail
                  refine (l1Both_any o u _ hos' hus').mono ?_
                  rintro e w' ⟨rfl, rfl⟩
                  rw [HG.out]
                  go_wp2
                  (try simp only [Exit.inBlock, Exit.then]); refine bodyPost_ret (results_tmp4 rfl _ _ _) rfl ?_
                  exact ⟨HY.out, Below.refl _ _⟩
                | true =>
                  go_wp2_with fail
                  refine (l1Both_any o u _ hos' hus').mono ?_
                  rintro e w' ⟨rfl, rfl⟩
                  rw [HG.out]
                  go_wp2
                  (try simp only [Exit.inBlock, Exit.then]); refine bodyPost_ret (results_tmp4 rfl _ _ _) rfl ?_
                  exact ⟨HY.out, Below.refl _ _⟩
            · have hu1' : (u.toList == [49]) = false := str_ne hu1
              have HB : Hid (brokenN s.data.toList = true ∧ u.data.toList = underN s.data.toList ∧ dval (underN s.data.toList) ≠ 0 ∧ dval (underN s.data.toList) ≠ 1) := by
                obtain ⟨h1, ⟨h2, h3⟩ | ⟨h2, h3, h4, h5⟩⟩ := HC.out
                · exact absurd h3 hu1
                · refine ⟨h2, h3, ?_, ?_⟩
                  · rw [← h3]; exact fun e => h4 ((canon_zero (good_canon HGU.out)).1 e)
                  · rw [← h3]; exact fun e => h5 ((canon_one (good_canon HGU.out)).1 e)
              have HGU' : Hid (goodB (underN s.data.toList) = true) := by unfold Hid; rw [← HB.out.2.1]; exact HGU.out
              clear hu1
              have key : ∀ (c : ByteArray), canonB c.data.toList = true → dval c.data.toList = Nat.gcd (dval o.data.toList) (dval u.data.toList) → (c.data.toList = [49] → PartsN s.data.toList (.returned (.tuple #[.bool ng, .string o, .string u, .bool true]))) ∧ (c.data.toList ≠ [49] → okN s.data.toList = false) := by
                intro c hc hv
                rw [HC.out.1, HB.out.2.1] at hv
                constructor
                · intro h1
                  have hg1 : Nat.gcd (dval (overN s.data.toList)) (dval (underN s.data.toList)) = 1 := by rw [← hv, h1]; decide
                  have HN : okN s.data.toList = true := by
                    unfold okN
                    rw [HSG.out, HB.out.1, HGU'.out, decide_eq_true HB.out.2.2.1, decide_eq_true HB.out.2.2.2, decide_eq_true hg1]; rfl
                  exact ⟨ng, o, u, by rw [HN], fun _ => ⟨HNG.out, HGO.out, by unfold topN; rw [HC.out.1], HGU.out, by unfold botN; rw [HB.out.1, HB.out.2.1]; rfl⟩⟩
                · intro h1
                  have hg1 : ¬ Nat.gcd (dval (overN s.data.toList)) (dval (underN s.data.toList)) = 1 := by rw [← hv]; exact fun e => h1 ((canon_one hc).1 e)
                  unfold okN
                  rw [HB.out.1, decide_eq_false hg1]; simp
              have KEY := hideT' key
              clear key
              rcases h0' with h0' | h0'
              · subst h0'
                go_wp2_with fail
                refine (l1Both_any o u _ hos' hus').mono ?_
                rintro e w' ⟨rfl, rfl⟩
                rw [HG.out]
                go_wp2_with fail
                refine (l1Gcd_any o u _ (by omega) (by omega) (good_canon HGO.out) (good_canon HGU.out)).mono ?_
                rintro e w2 ⟨c, rfl, hc, hv, hW2⟩
                have K := hideT' (KEY.out c hc hv)
                clear hc hv
                by_cases hc1 : c.data.toList = [49]
                · have hc1' : (c.toList == [49]) = true := str_eq hc1
                  have HY := hideT' (K.out.1 hc1)
                  clear hc1
                  go_wp2
                  (try simp only [Exit.inBlock, Exit.then]); refine bodyPost_ret (results_tmp4 rfl _ _ _) rfl ?_
                  exact ⟨HY.out, hW2⟩
                · have hc1' : (c.toList == [49]) = false := str_ne hc1
                  have HN := hideT' (K.out.2 hc1)
                  clear hc1
                  go_wp2
                  (try simp only [Exit.inBlock, Exit.then]); refine bodyPost_ret (results_tmp4 rfl _ _ _) rfl ?_
                  exact ⟨PartsN.no HN.out, hW2⟩
              · cases ng with
                | false =>
                  go_wp2_with fail
                  refine (l1Both_any o u _ hos' hus').mono ?_
                  rintro e w' ⟨rfl, rfl⟩
                  rw [HG.out]
                  go_wp2_with fail
                  refine (l1Gcd_any o u _ (by omega) (by omega) (good_canon HGO.out) (good_canon HGU.out)).mono ?_
                  rintro e w2 ⟨c, rfl, hc, hv, hW2⟩
                  have K := hideT' (KEY.out c hc hv)
                  clear hc hv
                  by_cases hc1 : c.data.toList = [49]
                  · have hc1' : (c.toList == [49]) = true := str_eq hc1
                    have HY := hideT' (K.out.1 hc1)
                    clear hc1
                    go_wp2
                    (try simp only [Exit.inBlock, Exit.then]); refine bodyPost_ret (results_tmp4 rfl _ _ _) rfl ?_
                    exact ⟨HY.out, hW2⟩
                  · have hc1' : (c.toList == [49]) = false := str_ne hc1
                    have HN := hideT' (K.out.2 hc1)
                    clear hc1
                    go_wp2
                    (try simp only [Exit.inBlock, Exit.then]); refine bodyPost_ret (results_tmp4 rfl _ _ _) rfl ?_
                    exact ⟨PartsN.no HN.out, hW2⟩
                | true =>
                  go_wp2_with fail
                  refine (l1Both_any o u _ hos' hus').mono ?_
                  rintro e w' ⟨rfl, rfl⟩
                  rw [HG.out]
                  go_wp2_with fail
                  refine (l1Gcd_any o u _ (by omega) (by omega) (good_canon HGO.out) (good_canon HGU.out)).mono ?_
                  rintro e w2 ⟨c, rfl, hc, hv, hW2⟩
                  have K := hideT' (KEY.out c hc hv)
                  clear hc hv
                  by_cases hc1 : c.data.toList = [49]
                  · have hc1' : (c.toList == [49]) = true := str_eq hc1
                    have HY := hideT' (K.out.1 hc1)
                    clear hc1
                    go_wp2
                    (try simp only [Exit.inBlock, Exit.then]); refine bodyPost_ret (results_tmp4 rfl _ _ _) rfl ?_
                    exact ⟨HY.out, hW2⟩
                  · have hc1' : (c.toList == [49]) = false := str_ne hc1
                    have HN := hideT' (K.out.2 hc1)
                    clear hc1
                    go_wp2
                    (try simp only [Exit.inBlock, Exit.then]); refine bodyPost_ret (results_tmp4 rfl _ _ _) rfl ?_
                    exact ⟨PartsN.no HN.out, hW2⟩
end Go.Proofs.YtmfpnbmfcoahbaaGreatDoor

/-
  What spec.GoodNum and impl.GoodNum answer.
-/
namespace Go.Proofs.YtmfpnbmfcoahbaaGreatDoor
open Go.RowKit
set_option linter.unusedVariables false

end Go.Proofs.YtmfpnbmfcoahbaaGreatDoor
