/-
  The texts ReadNum, GoodNum, DatMath, DatTree, Dat, DatText, DatMem, AppStr, SpecQuote, SpecGoodData, one behind the other, as one.
-/
import Derived.Test.YtmpghgaijphniaaGreatDoorTailDataTextA
import Derived.Test.YtmpghgaijphniaaGreatDoorSpecParts
import Derived.Test.YtmpghgaijphniaaGreatDoorWhole
import Derived.Test.YtmpghgaijphniaaGreatDoorSpecDiv
import Derived.Lib.AppendStr

/-
  What readNum of impl answers.
-/
namespace Go.Proofs.YtmpghgaijphniaaGreatDoor
open Go.RowKit
set_option linter.unusedVariables false

theorem one_lt' (k : Nat) (hk : k ≠ 0) : 1 < 10 ^ k := Nat.one_lt_pow hk (by decide)
theorem good_lt' {l : List UInt8} (h : goodB l = true) : dval l < 10 ^ 600 := (canon_len_le (good_canon h) 600 (by omega)).1 (good_len h)

set_option maxHeartbeats 6000000 in
set_option maxRecDepth 100000 in
theorem readNum_any (s : ByteArray) (w : World) (hs : s.size ≤ maxLen) :
    Calls Tryz.prog 46 #[.string s] w fun e w' => ReadN s.data.toList e ∧ Below w.heap.size w w' := by
  have hz := zero_nat.1
  have hz1 := zero_whole.1
  have hz2 := zero_num.1
  have A := NumAt.new w false 0 zP 0 zP
  have hB : Below w.heap.size w (w.alloc (.cells (numC false 0 zP 0 zP) 73)) := (Below.refl _ _).alloc (Nat.le_refl _) _
  go_enter Tryz.func46, Tryz.ntmps46
  go_wp2_with fail
  refine (cutPrefix_any s _ hs).mono ?_
  rintro e w1 ⟨t, rfl, ht, rfl⟩
  have hts : t.size ≤ maxLen := by
    have h1 : t.data.toList.length = t.size := by simp
    have h2 : s.data.toList.length = s.size := by simp
    have : (bodyN s.data.toList).length ≤ s.data.toList.length := by unfold bodyN; split <;> simp
    rw [← ht] at this; omega
  have HTT := hide ht
  clear ht
  go_wp2_with fail
  refine (cut_any t _ hts).mono ?_
  rintro e w2 ⟨o, u, rfl, ho, hu, hW2⟩
  rw [HTT.out] at ho hu ⊢
  have hcs := cut_size (bodyN s.data.toList)
  have hos : o.size ≤ maxLen := by
    have h1 : o.data.toList.length = o.size := by simp
    have h2 : t.data.toList.length = t.size := by simp
    rw [HTT.out] at h2
    rw [ho] at h1; omega
  have hus : u.size ≤ maxLen := by
    have h1 : u.data.toList.length = u.size := by simp
    have h2 : t.data.toList.length = t.size := by simp
    rw [HTT.out] at h2
    rw [hu] at h1; omega
  have HO : Hid (o.data.toList = overN s.data.toList ∧ u.data.toList = underN s.data.toList) := ⟨ho, hu⟩
  obtain ⟨bk, hbk⟩ : ∃ bk, bk = (cut47 (bodyN s.data.toList)).2.2 := ⟨_, rfl⟩
  rw [← hbk]
  have HBK : Hid (bk = brokenN s.data.toList) := hbk
  obtain ⟨ng, hng⟩ : ∃ ng, ng = negN s.data.toList := ⟨_, rfl⟩
  rw [← hng]
  have HNG := hide hng
  have A2 : NumAt w2 w.heap.size false 0 zP 0 zP := A.below hW2 (by simp)
  have hB2 : Below w.heap.size w w2 := hB.trans (hW2.mono (by simp))
  have hs2 := hW2.size
  simp only [World.size_alloc] at hs2
  clear ho hu hcs hbk hng A hB hW2 HTT
  go_wp2_with fail
  refine (readNat_any o _ hos).mono ?_
  rintro e w3 ⟨k, p, oa, rfl, hRa, hW3⟩
  have hp := hRa.len
  have hs3 := hW3.size
  have A3 : NumAt w3 w.heap.size false 0 zP 0 zP := A2.below hW3 (by omega)
  have hB3 : Below w.heap.size w w3 := hB2.trans (hW3.mono (by omega))
  have F := NatAt.new w3 0 zP
  clear A2 hB2 hW3
  -- no number
  have NO : Hid (okN s.data.toList = false → ReadN s.data.toList (.returned (.tuple #[.agg (numC false 0 zP 0 zP), .bool false]))) := fun h => ⟨false, 0, 0, zP, zP, by rw [h]; rfl, zP_len, zP_len, fun h' => by rw [h] at h'; cases h'⟩
  have hok : oa = goodB (overN s.data.toList) := by rw [← HO.out.1]; exact hRa.ok
  cases hg : oa with
  | false =>
    subst hg
    have HN : Hid (okN s.data.toList = false) := by unfold Hid okN; rw [← hok]; rfl
    clear hok hRa
    go_wp2_with (first | (refine store_nat rfl _ _ rfl rfl w3.heap.size k p rfl rfl 0 zP F zP_len hp ?_; intro w4 hN4 hg4 hs4; have c0 := hN4.c0; have A4 : NumAt w4 w.heap.size false 0 zP 0 zP := (RowAt.old A3 (.cells (natC 0 zP) 69)).grown hg4 (by first | (simp; done) | (simp; omega))) | (refine build_num0 rfl rfl _ rfl ?_) | (refine store_num rfl _ _ rfl rfl w.heap.size false 0 zP 0 zP rfl rfl false 0 zP 0 zP A4 zP_len zP_len zP_len zP_len ?_; intro w5 hN5 hg5 hs5))
    refine bodyPost_ret (v := .tuple #[.agg (numC false 0 zP 0 zP), .bool false]) (res_num_tmp Tryz.results46 _ _ w.heap.size _ _ _ _ _ _ rfl rfl hN5 zP_len zP_len) rfl ⟨NO.out HN.out, ?_⟩
    exact ((hB3.alloc (by omega) _).grown hg4 (by first | (simp; done) | (simp; omega)) (by intro k hk; cases hk; omega)).grown hg5 (by rw [hs4]; simp; omega) (by intro k hk; cases hk; omega)
  | true =>
    subst hg
    have hgo : goodB o.data.toList = true := by rw [HO.out.1]; exact hok.symm
    have ra : Rep (topN s.data.toList) k p := by unfold topN; rw [← HO.out.1]; exact hRa.rep hgo
    have hk : k ≤ 100 := by
      have h1 : topN s.data.toList < 10 ^ 600 := by unfold topN; rw [← HO.out.1]; exact good_lt' hgo
      exact ra.fits.2 h1
    have RA := hide ra
    have HGO : Hid (goodB (overN s.data.toList) = true) := hok.symm
    clear hok hRa hgo ra
    by_cases hbad : ng = true ∧ k = 0
    · have HN : Hid (okN s.data.toList = false) := by
        unfold Hid okN
        have h0 : dval (overN s.data.toList) = 0 := RA.out.zero_iff.1 hbad.2
        rw [HGO.out, ← HNG.out, hbad.1, h0]; rfl
      obtain ⟨h1, h2⟩ := hbad
      have h2' : ((k : Int) == 0) = true := by simp [h2]
      subst h1
      clear h2
      go_wp2_with (first | (refine store_nat rfl _ _ rfl rfl w3.heap.size k p rfl rfl 0 zP F zP_len hp ?_; intro w4 hN4 hg4 hs4; have c0 := hN4.c0; have A4 : NumAt w4 w.heap.size false 0 zP 0 zP := (RowAt.old A3 (.cells (natC 0 zP) 69)).grown hg4 (by first | (simp; done) | (simp; omega))) | (refine build_num0 rfl rfl _ rfl ?_) | (refine store_num rfl _ _ rfl rfl w.heap.size false 0 zP 0 zP rfl rfl false 0 zP 0 zP A4 zP_len zP_len zP_len zP_len ?_; intro w5 hN5 hg5 hs5))
      refine bodyPost_ret (v := .tuple #[.agg (numC false 0 zP 0 zP), .bool false]) (res_num_tmp Tryz.results46 _ _ w.heap.size _ _ _ _ _ _ rfl rfl hN5 zP_len zP_len) rfl ⟨NO.out HN.out, ?_⟩
      exact ((hB3.alloc (by omega) _).grown hg4 (by first | (simp; done) | (simp; omega)) (by intro k hk; cases hk; omega)).grown hg5 (by rw [hs4]; simp; omega) (by intro k hk; cases hk; omega)
    · have HSG : Hid ((goodB (overN s.data.toList) && !(negN s.data.toList && decide (dval (overN s.data.toList) = 0))) = true) := by
        unfold Hid
        rw [HGO.out, ← HNG.out]
        cases ng with
        | false => rfl
        | true =>
          have : dval (overN s.data.toList) ≠ 0 := fun e => hbad ⟨rfl, RA.out.zero_iff.2 e⟩
          simp [this]
      have hbad' : ng = false ∨ ((k : Int) == 0) = false := by
        cases ng with
        | false => exact .inl rfl
        | true => right; rw [beq_eq_false_iff_ne]; intro e; exact hbad ⟨rfl, by omega⟩
      clear hbad
      cases ng with
      | false =>
        clear hbad'
        go_wp2_with (refine store_nat rfl _ _ rfl rfl w3.heap.size k p rfl rfl 0 zP F zP_len hp ?_; intro w4 hN4 hg4 hs4; have c0 := hN4.c0)
        have hs4' : w4.heap.size = w3.heap.size + 1 := by rw [hs4]; simp
        have A4 : NumAt w4 w.heap.size false 0 zP 0 zP := (RowAt.old A3 (.cells (natC 0 zP) 69)).grown hg4 (by first | (simp; done) | (simp; omega))
        have hB4 : Below w.heap.size w w4 := (hB3.alloc (by omega) _).grown hg4 (by first | (simp; done) | (simp; omega)) (by intro k hk; cases hk; omega)
        clear A3 hB3 F hg4 hs4 c0
        refine region_make "l2_num.go:155" false k p hp w3.heap.size w.heap.size rfl rfl (by simp) hz2 hN4 A4 ?_
        intro b0 i r w7 hN7 N7 A7 hR hb0 hlt7 hW7
        have hr := hR.len
        have hB7 : Below w.heap.size w w7 := hB4.trans (hW7.mono hB4.size)
        have hb3 : w3.heap.size < b0 := by omega
        clear hN4 A4 hB4 hW7
        simp only [Act.put, List.setIfInBounds_toArray, List.set_cons_zero, List.set_cons_succ]
        have hi := (hR.fits.2 (one_lt' 600 (by decide)))
        have hi0 : i ≠ 0 := fun e => by have := hR.zero_iff.1 e; omega
        have HR1 := hide hR
        clear hR
        cases bk with
        | false =>
          have HN : Hid (okN s.data.toList = true) := by unfold Hid okN; rw [HSG.out, ← HBK.out]; rfl
          have HRD : Hid (ReadN s.data.toList (.returned (.tuple #[.agg (numC false k p i r), .bool true]))) := ⟨false, k, i, p, r, by rw [HN.out], hp, hr, fun _ => ⟨HNG.out, RA.out, by unfold botN; rw [← HBK.out]; exact HR1.out, hk, hi, hi0⟩⟩
          go_wp2_with (first | (refine load_num rfl _ rfl b0 rfl false k p i r hN7 hp hr ?_) | (refine store_num rfl _ _ rfl rfl w.heap.size false k p i r rfl rfl false 0 zP 0 zP A7 zP_len zP_len hp hr ?_; intro w8 hN8 hg8 hs8))
          refine bodyPost_ret (v := .tuple #[.agg (numC false k p i r), .bool true]) (res_num_tmp Tryz.results46 _ _ w.heap.size _ _ _ _ _ _ rfl rfl hN8 hp hr) rfl ⟨HRD.out, ?_⟩
          exact hB7.grown hg8 (by have := hB7.size; omega) (by intro k hk; cases hk; omega)
        | true =>
          go_wp2_with fail
          refine (readNat_any u _ hus).mono ?_
          rintro e w8 ⟨m, q, ob, rfl, hRb, hW8⟩
          have hq := hRb.len
          have hs8 := hW8.size
          have A8 : NumAt w8 w.heap.size false 0 zP 0 zP := A7.below hW8 (by omega)
          have N8 : NatAt w8 w3.heap.size k p := N7.below hW8 (by omega)
          have M8 : NumAt w8 b0 false k p i r := hN7.below hW8 hlt7
          have hB8 : Below w.heap.size w w8 := hB7.trans (hW8.mono hB7.size)
          clear A7 N7 hN7 hB7 hW8
          have hokb : ob = goodB (underN s.data.toList) := by rw [← HO.out.2]; exact hRb.ok
          cases hob : ob with
          | false =>
            subst hob
            have HN : Hid (okN s.data.toList = false) := by unfold Hid okN; rw [← HBK.out, ← hokb, HSG.out]; rfl
            clear hokb hRb
            go_wp2_with (first | (refine store_bottom rfl _ _ rfl rfl b0 m q rfl rfl false k p i r M8 hp hr hq ?_; intro w9 M9 hg9 hs9; have A9 : NumAt w9 w.heap.size false 0 zP 0 zP := RowAt.grown A8 hg9 (by simp; omega)) | (refine build_num0 rfl rfl _ rfl ?_) | (refine store_num rfl _ _ rfl rfl w.heap.size false 0 zP 0 zP rfl rfl false 0 zP 0 zP A9 zP_len zP_len zP_len zP_len ?_; intro wf hNf hgf hsf))
            refine bodyPost_ret (v := .tuple #[.agg (numC false 0 zP 0 zP), .bool false]) (res_num_tmp Tryz.results46 _ _ w.heap.size _ _ _ _ _ _ rfl rfl hNf zP_len zP_len) rfl ⟨NO.out HN.out, ?_⟩
            exact (hB8.grown hg9 (by have := hB8.size; omega) (by intro k hk; cases hk; omega)).grown hgf (by have := hB8.size; omega) (by intro k hk; cases hk; omega)
          | true =>
            subst hob
            have hgu : goodB u.data.toList = true := by rw [HO.out.2]; exact hokb.symm
            have rb : Rep (dval (underN s.data.toList)) m q := by rw [← HO.out.2]; exact hRb.rep hgu
            have hm : m ≤ 100 := by
              have h1 : dval (underN s.data.toList) < 10 ^ 600 := by rw [← HO.out.2]; exact good_lt' hgu
              exact rb.fits.2 h1
            have RB := hide rb
            have HGU : Hid (goodB (underN s.data.toList) = true) := hokb.symm
            clear hokb hRb hgu rb
            by_cases hm0 : m = 0
            · have HN : Hid (okN s.data.toList = false) := by
                unfold Hid okN; rw [← HBK.out, HGU.out, HSG.out, RB.out.zero_iff.1 hm0]; rfl
              have hm0' : ((m : Int) == 0) = true := by simp [hm0]
              clear hm0
              go_wp2_with (first | (refine store_bottom rfl _ _ rfl rfl b0 m q rfl rfl false k p i r M8 hp hr hq ?_; intro w9 M9 hg9 hs9; have A9 : NumAt w9 w.heap.size false 0 zP 0 zP := RowAt.grown A8 hg9 (by simp; omega); have c206 := M9.bused hp) | (refine build_num0 rfl rfl _ rfl ?_) | (refine store_num rfl _ _ rfl rfl w.heap.size false 0 zP 0 zP rfl rfl false 0 zP 0 zP A9 zP_len zP_len zP_len zP_len ?_; intro wf hNf hgf hsf))
              refine bodyPost_ret (v := .tuple #[.agg (numC false 0 zP 0 zP), .bool false]) (res_num_tmp Tryz.results46 _ _ w.heap.size _ _ _ _ _ _ rfl rfl hNf zP_len zP_len) rfl ⟨NO.out HN.out, ?_⟩
              exact (hB8.grown hg9 (by have := hB8.size; omega) (by intro k hk; cases hk; omega)).grown hgf (by have := hB8.size; omega) (by intro k hk; cases hk; omega)
            · have hm0' : ((m : Int) == 0) = false := by rw [beq_eq_false_iff_ne]; omega
              have HU0 : Hid (dval (underN s.data.toList) ≠ 0) := fun e => hm0 (RB.out.zero_iff.2 e)
              go_wp2_with (first | (refine store_bottom rfl _ _ rfl rfl b0 m q rfl rfl false k p i r M8 hp hr hq ?_; intro w9 M9 hg9 hs9; have c206 := M9.bused hp) | (refine load_num_w rfl _ rfl b0 rfl false k p m q M9 hp hq ?_))
              have A9 : NumAt w9 w.heap.size false 0 zP 0 zP := RowAt.grown A8 hg9 (by simp; omega)
              have N9 : NatAt w9 w3.heap.size k p := N8.grown hg9 (by simp; omega)
              have hB9 : Below w.heap.size w w9 := hB8.grown hg9 (by have := hB8.size; omega) (by intro k hk; cases hk; omega)
              have hlt9 := M9.lt
              have hltA := A9.lt
              have hltN := N9.lt
              clear A8 N8 M8 hB8 hg9 c206
              refine (isWhole_any (n := 0) false _ hp RB.out).mono ?_
              rintro e w10 ⟨rfl, hW10⟩
              have hs10 := hW10.size
              have A10 : NumAt w10 w.heap.size false 0 zP 0 zP := RowAt.below A9 hW10 hltA
              have N10 : NatAt w10 w3.heap.size k p := N9.below hW10 hltN
              have M10 : NumAt w10 b0 false k p m q := RowAt.below M9 hW10 hlt9
              have hB10 : Below w.heap.size w w10 := hB9.trans (hW10.mono hB9.size)
              clear A9 N9 M9 hB9 hW10
              by_cases hu1 : dval (underN s.data.toList) = 1
              · have HN : Hid (okN s.data.toList = false) := by
                  unfold Hid okN; rw [← HBK.out, HGU.out, HSG.out, hu1]; rfl
                rw [decide_eq_true hu1]
                clear hu1
                go_wp2_with (first | (refine build_num0 rfl rfl _ rfl ?_) | (refine store_num rfl _ _ rfl rfl w.heap.size false 0 zP 0 zP rfl rfl false 0 zP 0 zP A10 zP_len zP_len zP_len zP_len ?_; intro wf hNf hgf hsf))
                refine bodyPost_ret (v := .tuple #[.agg (numC false 0 zP 0 zP), .bool false]) (res_num_tmp Tryz.results46 _ _ w.heap.size _ _ _ _ _ _ rfl rfl hNf zP_len zP_len) rfl ⟨NO.out HN.out, ?_⟩
                exact hB10.grown hgf (by have := hB10.size; omega) (by intro k hk; cases hk; omega)
              · rw [decide_eq_false hu1]
                have HU1 := hide hu1
                clear hu1
                go_wp2_with (first | (refine load_nat_w rfl _ rfl w3.heap.size rfl k p N10 hp ?_) | (refine load_mid_w rfl _ rfl b0 206 rfl m q (M10.bottom hp) hq ?_))
                refine (gcd_any _ RA.out RB.out (by omega) (by omega)).mono ?_
                rintro e w11 ⟨c, cc, rfl, hRc, hW11⟩
                have hs11 := hW11.size
                have A11 : NumAt w11 w.heap.size false 0 zP 0 zP := RowAt.below A10 hW11 (by omega)
                have M11 : NumAt w11 b0 false k p m q := RowAt.below M10 hW11 (by omega)
                have hB11 : Below w.heap.size w w11 := hB10.trans (hW11.mono hB10.size)
                have HRc := hide hRc
                clear A10 N10 M10 hB10 hW11 hRc
                go_wp2_with fail
                refine (isOne_any _ HRc.out).mono ?_
                rintro e w12 ⟨rfl, hW12⟩
                have A12 : NumAt w12 w.heap.size false 0 zP 0 zP := RowAt.below A11 hW12 (by omega)
                have M12 : NumAt w12 b0 false k p m q := RowAt.below M11 hW12 (by omega)
                have hB12 : Below w.heap.size w w12 := hB11.trans (hW12.mono hB11.size)
                clear A11 M11 hB11 hW12
                by_cases hg1 : Nat.gcd (topN s.data.toList) (dval (underN s.data.toList)) = 1
                · rw [decide_eq_true hg1]
                  have HN : Hid (okN s.data.toList = true) := by
                    unfold Hid okN
                    rw [← HBK.out, HGU.out, HSG.out, decide_eq_true HU0.out, decide_eq_true HU1.out, decide_eq_true (show Nat.gcd (dval (overN s.data.toList)) (dval (underN s.data.toList)) = 1 from hg1)]; rfl
                  have HRD : Hid (ReadN s.data.toList (.returned (.tuple #[.agg (numC false k p m q), .bool true]))) := ⟨false, k, m, p, q, by rw [HN.out], hp, hq, fun _ => ⟨HNG.out, RA.out, by unfold botN; rw [← HBK.out]; exact RB.out, hk, hm, hm0⟩⟩
                  clear hg1
                  go_wp2_with (first | (refine load_num rfl _ rfl b0 rfl false k p m q M12 hp hq ?_) | (refine store_num rfl _ _ rfl rfl w.heap.size false k p m q rfl rfl false 0 zP 0 zP A12 zP_len zP_len hp hq ?_; intro wf hNf hgf hsf))
                  refine bodyPost_ret (v := .tuple #[.agg (numC false k p m q), .bool true]) (res_num_tmp Tryz.results46 _ _ w.heap.size _ _ _ _ _ _ rfl rfl hNf hp hq) rfl ⟨HRD.out, ?_⟩
                  exact hB12.grown hgf (by have := hB12.size; omega) (by intro k hk; cases hk; omega)
                · rw [decide_eq_false hg1]
                  have HN : Hid (okN s.data.toList = false) := by
                    unfold Hid okN
                    rw [← HBK.out, HGU.out, HSG.out, decide_eq_false (show ¬ Nat.gcd (dval (overN s.data.toList)) (dval (underN s.data.toList)) = 1 from hg1)]; simp
                  clear hg1
                  go_wp2_with (first | (refine build_num0 rfl rfl _ rfl ?_) | (refine store_num rfl _ _ rfl rfl w.heap.size false 0 zP 0 zP rfl rfl false 0 zP 0 zP A12 zP_len zP_len zP_len zP_len ?_; intro wf hNf hgf hsf))
                  refine bodyPost_ret (v := .tuple #[.agg (numC false 0 zP 0 zP), .bool false]) (res_num_tmp Tryz.results46 _ _ w.heap.size _ _ _ _ _ _ rfl rfl hNf zP_len zP_len) rfl ⟨NO.out HN.out, ?_⟩
                  exact hB12.grown hgf (by have := hB12.size; omega) (by intro k hk; cases hk; omega)
      | true =>
        have hb1 : ((k : Int) == 0) = false := hbad'.resolve_left (by decide)
        clear hbad'
        go_wp2_with (refine store_nat rfl _ _ rfl rfl w3.heap.size k p rfl rfl 0 zP F zP_len hp ?_; intro w4 hN4 hg4 hs4; have c0 := hN4.c0)
        have hs4' : w4.heap.size = w3.heap.size + 1 := by rw [hs4]; simp
        have A4 : NumAt w4 w.heap.size false 0 zP 0 zP := (RowAt.old A3 (.cells (natC 0 zP) 69)).grown hg4 (by first | (simp; done) | (simp; omega))
        have hB4 : Below w.heap.size w w4 := (hB3.alloc (by omega) _).grown hg4 (by first | (simp; done) | (simp; omega)) (by intro k hk; cases hk; omega)
        clear A3 hB3 F hg4 hs4 c0
        refine region_make "l2_num.go:155" true k p hp w3.heap.size w.heap.size rfl rfl (by simp) hz2 hN4 A4 ?_
        intro b0 i r w7 hN7 N7 A7 hR hb0 hlt7 hW7
        have hr := hR.len
        have hB7 : Below w.heap.size w w7 := hB4.trans (hW7.mono hB4.size)
        have hb3 : w3.heap.size < b0 := by omega
        clear hN4 A4 hB4 hW7
        simp only [Act.put, List.setIfInBounds_toArray, List.set_cons_zero, List.set_cons_succ]
        have hi := (hR.fits.2 (one_lt' 600 (by decide)))
        have hi0 : i ≠ 0 := fun e => by have := hR.zero_iff.1 e; omega
        have HR1 := hide hR
        clear hR
        cases bk with
        | false =>
          have HN : Hid (okN s.data.toList = true) := by unfold Hid okN; rw [HSG.out, ← HBK.out]; rfl
          have HRD : Hid (ReadN s.data.toList (.returned (.tuple #[.agg (numC true k p i r), .bool true]))) := ⟨true, k, i, p, r, by rw [HN.out], hp, hr, fun _ => ⟨HNG.out, RA.out, by unfold botN; rw [← HBK.out]; exact HR1.out, hk, hi, hi0⟩⟩
          go_wp2_with (first | (refine load_num rfl _ rfl b0 rfl true k p i r hN7 hp hr ?_) | (refine store_num rfl _ _ rfl rfl w.heap.size true k p i r rfl rfl false 0 zP 0 zP A7 zP_len zP_len hp hr ?_; intro w8 hN8 hg8 hs8))
          refine bodyPost_ret (v := .tuple #[.agg (numC true k p i r), .bool true]) (res_num_tmp Tryz.results46 _ _ w.heap.size _ _ _ _ _ _ rfl rfl hN8 hp hr) rfl ⟨HRD.out, ?_⟩
          exact hB7.grown hg8 (by have := hB7.size; omega) (by intro k hk; cases hk; omega)
        | true =>
          go_wp2_with fail
          refine (readNat_any u _ hus).mono ?_
          rintro e w8 ⟨m, q, ob, rfl, hRb, hW8⟩
          have hq := hRb.len
          have hs8 := hW8.size
          have A8 : NumAt w8 w.heap.size false 0 zP 0 zP := A7.below hW8 (by omega)
          have N8 : NatAt w8 w3.heap.size k p := N7.below hW8 (by omega)
          have M8 : NumAt w8 b0 true k p i r := hN7.below hW8 hlt7
          have hB8 : Below w.heap.size w w8 := hB7.trans (hW8.mono hB7.size)
          clear A7 N7 hN7 hB7 hW8
          have hokb : ob = goodB (underN s.data.toList) := by rw [← HO.out.2]; exact hRb.ok
          cases hob : ob with
          | false =>
            subst hob
            have HN : Hid (okN s.data.toList = false) := by unfold Hid okN; rw [← HBK.out, ← hokb, HSG.out]; rfl
            clear hokb hRb
            go_wp2_with (first | (refine store_bottom rfl _ _ rfl rfl b0 m q rfl rfl true k p i r M8 hp hr hq ?_; intro w9 M9 hg9 hs9; have A9 : NumAt w9 w.heap.size false 0 zP 0 zP := RowAt.grown A8 hg9 (by simp; omega)) | (refine build_num0 rfl rfl _ rfl ?_) | (refine store_num rfl _ _ rfl rfl w.heap.size false 0 zP 0 zP rfl rfl false 0 zP 0 zP A9 zP_len zP_len zP_len zP_len ?_; intro wf hNf hgf hsf))
            refine bodyPost_ret (v := .tuple #[.agg (numC false 0 zP 0 zP), .bool false]) (res_num_tmp Tryz.results46 _ _ w.heap.size _ _ _ _ _ _ rfl rfl hNf zP_len zP_len) rfl ⟨NO.out HN.out, ?_⟩
            exact (hB8.grown hg9 (by have := hB8.size; omega) (by intro k hk; cases hk; omega)).grown hgf (by have := hB8.size; omega) (by intro k hk; cases hk; omega)
          | true =>
            subst hob
            have hgu : goodB u.data.toList = true := by rw [HO.out.2]; exact hokb.symm
            have rb : Rep (dval (underN s.data.toList)) m q := by rw [← HO.out.2]; exact hRb.rep hgu
            have hm : m ≤ 100 := by
              have h1 : dval (underN s.data.toList) < 10 ^ 600 := by rw [← HO.out.2]; exact good_lt' hgu
              exact rb.fits.2 h1
            have RB := hide rb
            have HGU : Hid (goodB (underN s.data.toList) = true) := hokb.symm
            clear hokb hRb hgu rb
            by_cases hm0 : m = 0
            · have HN : Hid (okN s.data.toList = false) := by
                unfold Hid okN; rw [← HBK.out, HGU.out, HSG.out, RB.out.zero_iff.1 hm0]; rfl
              have hm0' : ((m : Int) == 0) = true := by simp [hm0]
              clear hm0
              go_wp2_with (first | (refine store_bottom rfl _ _ rfl rfl b0 m q rfl rfl true k p i r M8 hp hr hq ?_; intro w9 M9 hg9 hs9; have A9 : NumAt w9 w.heap.size false 0 zP 0 zP := RowAt.grown A8 hg9 (by simp; omega); have c206 := M9.bused hp) | (refine build_num0 rfl rfl _ rfl ?_) | (refine store_num rfl _ _ rfl rfl w.heap.size false 0 zP 0 zP rfl rfl false 0 zP 0 zP A9 zP_len zP_len zP_len zP_len ?_; intro wf hNf hgf hsf))
              refine bodyPost_ret (v := .tuple #[.agg (numC false 0 zP 0 zP), .bool false]) (res_num_tmp Tryz.results46 _ _ w.heap.size _ _ _ _ _ _ rfl rfl hNf zP_len zP_len) rfl ⟨NO.out HN.out, ?_⟩
              exact (hB8.grown hg9 (by have := hB8.size; omega) (by intro k hk; cases hk; omega)).grown hgf (by have := hB8.size; omega) (by intro k hk; cases hk; omega)
            · have hm0' : ((m : Int) == 0) = false := by rw [beq_eq_false_iff_ne]; omega
              have HU0 : Hid (dval (underN s.data.toList) ≠ 0) := fun e => hm0 (RB.out.zero_iff.2 e)
              go_wp2_with (first | (refine store_bottom rfl _ _ rfl rfl b0 m q rfl rfl true k p i r M8 hp hr hq ?_; intro w9 M9 hg9 hs9; have c206 := M9.bused hp) | (refine load_num_w rfl _ rfl b0 rfl true k p m q M9 hp hq ?_))
              have A9 : NumAt w9 w.heap.size false 0 zP 0 zP := RowAt.grown A8 hg9 (by simp; omega)
              have N9 : NatAt w9 w3.heap.size k p := N8.grown hg9 (by simp; omega)
              have hB9 : Below w.heap.size w w9 := hB8.grown hg9 (by have := hB8.size; omega) (by intro k hk; cases hk; omega)
              have hlt9 := M9.lt
              have hltA := A9.lt
              have hltN := N9.lt
              clear A8 N8 M8 hB8 hg9 c206
              refine (isWhole_any (n := 0) true _ hp RB.out).mono ?_
              rintro e w10 ⟨rfl, hW10⟩
              have hs10 := hW10.size
              have A10 : NumAt w10 w.heap.size false 0 zP 0 zP := RowAt.below A9 hW10 hltA
              have N10 : NatAt w10 w3.heap.size k p := N9.below hW10 hltN
              have M10 : NumAt w10 b0 true k p m q := RowAt.below M9 hW10 hlt9
              have hB10 : Below w.heap.size w w10 := hB9.trans (hW10.mono hB9.size)
              clear A9 N9 M9 hB9 hW10
              by_cases hu1 : dval (underN s.data.toList) = 1
              · have HN : Hid (okN s.data.toList = false) := by
                  unfold Hid okN; rw [← HBK.out, HGU.out, HSG.out, hu1]; rfl
                rw [decide_eq_true hu1]
                clear hu1
                go_wp2_with (first | (refine build_num0 rfl rfl _ rfl ?_) | (refine store_num rfl _ _ rfl rfl w.heap.size false 0 zP 0 zP rfl rfl false 0 zP 0 zP A10 zP_len zP_len zP_len zP_len ?_; intro wf hNf hgf hsf))
                refine bodyPost_ret (v := .tuple #[.agg (numC false 0 zP 0 zP), .bool false]) (res_num_tmp Tryz.results46 _ _ w.heap.size _ _ _ _ _ _ rfl rfl hNf zP_len zP_len) rfl ⟨NO.out HN.out, ?_⟩
                exact hB10.grown hgf (by have := hB10.size; omega) (by intro k hk; cases hk; omega)
              · rw [decide_eq_false hu1]
                have HU1 := hide hu1
                clear hu1
                go_wp2_with (first | (refine load_nat_w rfl _ rfl w3.heap.size rfl k p N10 hp ?_) | (refine load_mid_w rfl _ rfl b0 206 rfl m q (M10.bottom hp) hq ?_))
                refine (gcd_any _ RA.out RB.out (by omega) (by omega)).mono ?_
                rintro e w11 ⟨c, cc, rfl, hRc, hW11⟩
                have hs11 := hW11.size
                have A11 : NumAt w11 w.heap.size false 0 zP 0 zP := RowAt.below A10 hW11 (by omega)
                have M11 : NumAt w11 b0 true k p m q := RowAt.below M10 hW11 (by omega)
                have hB11 : Below w.heap.size w w11 := hB10.trans (hW11.mono hB10.size)
                have HRc := hide hRc
                clear A10 N10 M10 hB10 hW11 hRc
                go_wp2_with fail
                refine (isOne_any _ HRc.out).mono ?_
                rintro e w12 ⟨rfl, hW12⟩
                have A12 : NumAt w12 w.heap.size false 0 zP 0 zP := RowAt.below A11 hW12 (by omega)
                have M12 : NumAt w12 b0 true k p m q := RowAt.below M11 hW12 (by omega)
                have hB12 : Below w.heap.size w w12 := hB11.trans (hW12.mono hB11.size)
                clear A11 M11 hB11 hW12
                by_cases hg1 : Nat.gcd (topN s.data.toList) (dval (underN s.data.toList)) = 1
                · rw [decide_eq_true hg1]
                  have HN : Hid (okN s.data.toList = true) := by
                    unfold Hid okN
                    rw [← HBK.out, HGU.out, HSG.out, decide_eq_true HU0.out, decide_eq_true HU1.out, decide_eq_true (show Nat.gcd (dval (overN s.data.toList)) (dval (underN s.data.toList)) = 1 from hg1)]; rfl
                  have HRD : Hid (ReadN s.data.toList (.returned (.tuple #[.agg (numC true k p m q), .bool true]))) := ⟨true, k, m, p, q, by rw [HN.out], hp, hq, fun _ => ⟨HNG.out, RA.out, by unfold botN; rw [← HBK.out]; exact RB.out, hk, hm, hm0⟩⟩
                  clear hg1
                  go_wp2_with (first | (refine load_num rfl _ rfl b0 rfl true k p m q M12 hp hq ?_) | (refine store_num rfl _ _ rfl rfl w.heap.size true k p m q rfl rfl false 0 zP 0 zP A12 zP_len zP_len hp hq ?_; intro wf hNf hgf hsf))
                  refine bodyPost_ret (v := .tuple #[.agg (numC true k p m q), .bool true]) (res_num_tmp Tryz.results46 _ _ w.heap.size _ _ _ _ _ _ rfl rfl hNf hp hq) rfl ⟨HRD.out, ?_⟩
                  exact hB12.grown hgf (by have := hB12.size; omega) (by intro k hk; cases hk; omega)
                · rw [decide_eq_false hg1]
                  have HN : Hid (okN s.data.toList = false) := by
                    unfold Hid okN
                    rw [← HBK.out, HGU.out, HSG.out, decide_eq_false (show ¬ Nat.gcd (dval (overN s.data.toList)) (dval (underN s.data.toList)) = 1 from hg1)]; simp
                  clear hg1
                  go_wp2_with (first | (refine build_num0 rfl rfl _ rfl ?_) | (refine store_num rfl _ _ rfl rfl w.heap.size false 0 zP 0 zP rfl rfl false 0 zP 0 zP A12 zP_len zP_len zP_len zP_len ?_; intro wf hNf hgf hsf))
                  refine bodyPost_ret (v := .tuple #[.agg (numC false 0 zP 0 zP), .bool false]) (res_num_tmp Tryz.results46 _ _ w.heap.size _ _ _ _ _ _ rfl rfl hNf zP_len zP_len) rfl ⟨NO.out HN.out, ?_⟩
                  exact hB12.grown hgf (by have := hB12.size; omega) (by intro k hk; cases hk; omega)
end Go.Proofs.YtmpghgaijphniaaGreatDoor

/-
  What spec.GoodNum and impl.GoodNum answer.
-/
namespace Go.Proofs.YtmpghgaijphniaaGreatDoor
open Go.RowKit
set_option linter.unusedVariables false

set_option maxHeartbeats 400000 in
theorem specGoodNum_any (s : ByteArray) (w : World) (hs : s.size ≤ maxLen) :
    Calls Tryz.prog 19 #[.string s] w fun e w' => e = .returned (.bool (okN s.data.toList)) ∧ Below w.heap.size w w' := by
  go_enter Tryz.func19, Tryz.ntmps19
  go_wp2_with fail
  refine (l2Parts_any s _ hs).mono ?_
  rintro e w1 ⟨⟨g, t, u, rfl, _⟩, hW⟩
  obtain ⟨b, hb⟩ : ∃ b, b = okN s.data.toList := ⟨_, rfl⟩
  rw [← hb]
  have HB := hideT' hb
  clear hb
  go_wp2
  go_ret
  exact ⟨by rw [← HB.out]; rfl, hW⟩

set_option maxHeartbeats 400000 in
theorem implGoodNum_any (s : ByteArray) (w : World) (hs : s.size ≤ maxLen) :
    Calls Tryz.prog 35 #[.string s] w fun e w' => e = .returned (.bool (okN s.data.toList)) ∧ Below w.heap.size w w' := by
  have hz2 := zero_num.1
  go_enter Tryz.func35, Tryz.ntmps35
  go_wp2_with fail
  refine (readNum_any s _ hs).mono ?_
  rintro e w1 ⟨⟨g, k, j, p, q, rfl, hp, hq, _⟩, hW⟩
  obtain ⟨b, hb⟩ : ∃ b, b = okN s.data.toList := ⟨_, rfl⟩
  rw [← hb]
  have HB := hideT' hb
  clear hb
  have F := NumAt.new w1 false 0 zP 0 zP
  go_wp2_with (refine store_num rfl _ _ rfl rfl w1.heap.size g k p j q rfl rfl false 0 zP 0 zP F zP_len zP_len hp hq ?_; intro w2 hN2 hg2 hs2)
  go_ret
  refine ⟨by rw [← HB.out]; rfl, (hW.alloc hW.size _).grown hg2 (by have := hW.size; simp; omega) (by intro k hk; cases hk; exact hW.size)⟩
end Go.Proofs.YtmpghgaijphniaaGreatDoor

/-
  Data as a list of nodes: what good data are. Plain facts.
-/
namespace Go.Proofs.YtmpghgaijphniaaGreatDoor
set_option linter.unusedVariables false

/-- A node: its kind, its text, the list that it is in. -/
structure Dm where
  k : Int
  t : ByteArray
  u : Int
instance : Inhabited Dm := ⟨⟨0, ⟨#[]⟩, 0⟩⟩
def dk (l : List Dm) (i : Nat) : Int := (l.getD i default).k
def dt (l : List Dm) (i : Nat) : ByteArray := (l.getD i default).t
def du (l : List Dm) (i : Nat) : Int := (l.getD i default).u

def isL (k : Int) : Bool := decide (k = 5) || decide (k = 6)
/-- Bytes of a string. -/
def strC (c : UInt8) : Bool := (decide (32 ≤ c.toNat) && decide (c.toNat ≤ 126)) || decide (c.toNat = 10)
def strOk (l : List UInt8) : Bool := decide (l.length ≤ 100) && l.all strC
def txtOk (k : Int) (t : List UInt8) : Bool :=
  if k = 1 then okN t else if k = 2 then symOk t else if k = 3 then strOk t else if k = 4 then (t == [116]) || (t == [102]) else isL k && (t == [])

/-- Is t met on the way up from the node at? (f: more than at.) -/
def inChain (l : List Dm) : Nat → Int → Int → Bool
  | 0, _, _ => false
  | f + 1, at_, t => if at_ < 0 then false else if at_ = t then true else inChain l f (du l at_.toNat) t
/-- How many lists are met on the way up from the node at? -/
def dep (l : List Dm) : Nat → Int → Nat
  | 0, _ => 0
  | f + 1, at_ => if at_ < 0 then 0 else (if isL (dk l at_.toNat) then 1 else 0) + dep l f (du l at_.toNat)
def upOk (l : List Dm) (k : Nat) : Bool := decide (du l k = -1) || (inChain l k ((k : Int) - 1) (du l k) && isL (dk l (du l k).toNat))
def deepOk (l : List Dm) (k : Nat) : Bool := decide (dep l (k + 1) (k : Int) ≤ 25)
/-- The parts of the list k among the first n nodes. -/
def prt (l : List Dm) (n k : Nat) : List Nat := (List.range n).filter (fun i => decide (k < i) && decide (du l i = (k : Int)))
def lastL (l : List Dm) (q : List Nat) : Bool := match q.getLast? with | some i => isL (dk l i) | none => false
def dotOk (l : List Dm) (k : Nat) : Bool := !(decide (dk l k = 6)) || (decide (2 ≤ (prt l l.length k).length) && !lastL l (prt l l.length k))
def nodeOk (l : List Dm) (k : Nat) : Bool := (upOk l k && (txtOk (dk l k) (dt l k).data.toList && deepOk l k)) && dotOk l k
def goodAll (l : List Dm) : Bool := decide (l.length ≤ 300) && (List.range l.length).all (nodeOk l)

/-- All nodes ahead of k lead up. -/
def Up (l : List Dm) (k : Nat) : Prop := ∀ i, i < k → -1 ≤ du l i ∧ du l i < (i : Int)

theorem Up.mono {l : List Dm} {k j : Nat} (h : Up l k) (hj : j ≤ k) : Up l j := fun i hi => h i (by omega)

theorem chain_le (l : List Dm) : ∀ (f : Nat) (k : Nat) (a t : Int), Up l k → a < (k : Int) → inChain l f a t = true → 0 ≤ t ∧ t ≤ a
  | 0, k, a, t, hU, ha, h => by simp [inChain] at h
  | f + 1, k, a, t, hU, ha, h => by
    unfold inChain at h
    by_cases h0 : a < 0
    · rw [if_pos h0] at h; cases h
    · rw [if_neg h0] at h
      by_cases h1 : a = t
      · omega
      · rw [if_neg h1] at h
        have hu := hU a.toNat (by omega)
        have := chain_le l f k _ t hU (by omega) h
        omega

theorem upOk_up {l : List Dm} {k : Nat} (hU : Up l k) (h : upOk l k = true) : -1 ≤ du l k ∧ du l k < (k : Int) := by
  unfold upOk at h
  simp only [Bool.or_eq_true, Bool.and_eq_true, decide_eq_true_eq] at h
  rcases h with h | h
  · omega
  · have := chain_le l k k _ _ hU (by omega) h.1
    omega
theorem Up.succ {l : List Dm} {k : Nat} (hU : Up l k) (h : upOk l k = true) : Up l (k + 1) := fun i hi => by
  by_cases e : i = k
  · subst e; exact upOk_up hU h
  · exact hU i (by omega)
theorem upOk_list {l : List Dm} {k : Nat} (h : upOk l k = true) (h0 : 0 ≤ du l k) : isL (dk l (du l k).toNat) = true := by
  unfold upOk at h
  simp only [Bool.or_eq_true, Bool.and_eq_true, decide_eq_true_eq] at h
  rcases h with h | h
  · omega
  · exact h.2

theorem chain_step {l : List Dm} {f : Nat} {a t : Int} (h0 : 0 ≤ a) (h1 : a ≠ t) : inChain l (f + 1) a t = inChain l f (du l a.toNat) t := by
  rw [inChain, if_neg (by omega), if_neg h1]
theorem chain_hit {l : List Dm} {f : Nat} {a : Int} (h0 : 0 ≤ a) : inChain l (f + 1) a a = true := by
  rw [inChain, if_neg (by omega), if_pos rfl]
theorem chain_end {l : List Dm} {f : Nat} {a t : Int} (h0 : a < 0) : inChain l f a t = false := by
  cases f with
  | zero => rfl
  | succ f => rw [inChain, if_pos h0]
theorem dep_end {l : List Dm} {f : Nat} {a : Int} (h0 : a < 0) : dep l f a = 0 := by
  cases f with
  | zero => rfl
  | succ f => rw [dep, if_pos h0]
theorem dep_step {l : List Dm} {f : Nat} {a : Int} (h0 : 0 ≤ a) : dep l (f + 1) a = (if isL (dk l a.toNat) then 1 else 0) + dep l f (du l a.toNat) := by
  rw [dep, if_neg (by omega)]

/-- The fuel does not matter. -/
theorem dep_fuel (l : List Dm) : ∀ (f g : Nat) (k : Nat) (a : Int), Up l k → a < (k : Int) → a < (f : Int) → a < (g : Int) → dep l f a = dep l g a
  | 0, g, k, a, hU, hk, hf, hg => by rw [dep_end (by omega), dep_end (by omega)]
  | f + 1, 0, k, a, hU, hk, hf, hg => by rw [dep_end (by omega), dep_end (by omega)]
  | f + 1, g + 1, k, a, hU, hk, hf, hg => by
    by_cases h0 : a < 0
    · rw [dep_end h0, dep_end h0]
    · rw [dep_step (by omega), dep_step (by omega)]
      have hu := hU a.toNat (by omega)
      rw [dep_fuel l f g k _ hU (by omega) (by omega) (by omega)]

/-- How many lists are around the node k. -/
def arnd (l : List Dm) (k : Nat) : Nat := dep l k (du l k)
theorem deep_arnd {l : List Dm} {k : Nat} : dep l (k + 1) (k : Int) = (if isL (dk l k) then 1 else 0) + arnd l k := by
  rw [dep_step (by omega), Int.toNat_natCast]; rfl
theorem arnd_none {l : List Dm} {k : Nat} (h : du l k < 0) : arnd l k = 0 := dep_end h
theorem arnd_some {l : List Dm} {k j : Nat} (hU : Up l k) (hj : du l k = (j : Int)) (hjk : j < k) (hl : isL (dk l j) = true) : arnd l k = arnd l j + 1 := by
  unfold arnd
  obtain ⟨m, rfl⟩ : ∃ m, k = m + 1 := ⟨k - 1, by omega⟩
  rw [hj, dep_step (by omega), Int.toNat_natCast, if_pos hl]
  have hu := hU j hjk
  rw [dep_fuel l m j (m + 1) (du l j) hU (by omega) (by omega) (by omega)]
  omega

theorem node_bad {l : List Dm} {k : Nat} (hk : k < l.length) (h : nodeOk l k = false) : goodAll l = false := by
  unfold goodAll
  have : (List.range l.length).all (nodeOk l) = false := by
    rw [List.all_eq_false]
    exact ⟨k, List.mem_range.2 hk, by rw [h]; decide⟩
  rw [this, Bool.and_false]
theorem node_all {l : List Dm} (hn : l.length ≤ 300) (h : ∀ k, k < l.length → nodeOk l k = true) : goodAll l = true := by
  unfold goodAll
  rw [decide_eq_true hn, Bool.true_and, List.all_eq_true]
  intro k hk
  exact h k (List.mem_range.1 hk)
theorem node_upBad {l : List Dm} {k : Nat} (h : upOk l k = false) : nodeOk l k = false := by unfold nodeOk; rw [h]; rfl
theorem node_txtBad {l : List Dm} {k : Nat} (h : txtOk (dk l k) (dt l k).data.toList = false) : nodeOk l k = false := by unfold nodeOk; rw [h]; simp
theorem node_deepBad {l : List Dm} {k : Nat} (h : deepOk l k = false) : nodeOk l k = false := by unfold nodeOk; rw [h]; simp
theorem node_dotBad {l : List Dm} {k : Nat} (h : dotOk l k = false) : nodeOk l k = false := by unfold nodeOk; rw [h]; simp
theorem node_ok {l : List Dm} {k : Nat} (h1 : upOk l k = true) (h2 : txtOk (dk l k) (dt l k).data.toList = true) (h3 : deepOk l k = true) (h4 : dotOk l k = true) : nodeOk l k = true := by
  unfold nodeOk; rw [h1, h2, h3, h4]; rfl
theorem node_up {l : List Dm} {k : Nat} (h : nodeOk l k = true) : upOk l k = true := by
  unfold nodeOk at h; simp only [Bool.and_eq_true] at h; exact h.1.1

/-- One node more: it is a part of the list that it is in. -/
theorem prt_snoc (l : List Dm) (n k : Nat) : prt l (n + 1) k = prt l n k ++ (if k < n ∧ du l n = (k : Int) then [n] else []) := by
  unfold prt
  rw [List.range_succ, List.filter_append]
  congr 1
  by_cases h : k < n ∧ du l n = (k : Int)
  · rw [if_pos h]; simp [h.1, h.2]
  · rw [if_neg h]
    have : ¬ (k < n ∧ du l n = (k : Int)) := h
    simp only [List.filter_cons, List.filter_nil]
    rw [if_neg (by simpa using this)]
theorem lastL_snoc (l : List Dm) (q : List Nat) (n : Nat) : lastL l (q ++ [n]) = isL (dk l n) := by
  unfold lastL; simp
theorem prt_mem {l : List Dm} {n k i : Nat} (h : i ∈ prt l n k) : i < n := by
  unfold prt at h
  exact List.mem_range.1 (List.mem_filter.1 h).1
theorem prt_len (l : List Dm) (n k : Nat) : (prt l n k).length ≤ n := by
  unfold prt
  have := List.length_filter_le (fun i => decide (k < i) && decide (du l i = (k : Int))) (List.range n)
  simpa using this
theorem prt_low (l : List Dm) (k : Nat) : ∀ n, n ≤ k + 1 → prt l n k = []
  | 0, _ => rfl
  | n + 1, h => by rw [prt_snoc, prt_low l k n (by omega), if_neg (by omega)]; rfl
end Go.Proofs.YtmpghgaijphniaaGreatDoor

/-
  Good data as trees, told as texts: plain facts.
-/
namespace Go.Proofs.YtmpghgaijphniaaGreatDoor
set_option linter.unusedVariables false

/-- A string's bytes as they are told. -/
def escB (c : UInt8) : List UInt8 := if c = 34 ∨ c = 92 then [92, c] else if c = 10 then [92, 110] else [c]
def quo (t : List UInt8) : List UInt8 := 34 :: (t.flatMap escB ++ [34])
/-- The parts of a list up (-1: of all), among the first n nodes. -/
def kid (l : List Dm) (n : Nat) (u : Int) : List Nat := (List.range n).filter (fun i => decide (u < (i : Int)) && decide (du l i = u))
/-- Parts told one behind the other; the last one of m behind a dot, where it must be. -/
def jn (g : Nat → List UInt8) (dot : Bool) (m : Nat) (q : List Nat) : Nat → List UInt8
  | 0 => []
  | i + 1 => jn g dot m q i ++ ((if 0 < i then [32] else []) ++ ((if dot && decide (i + 1 = m) then [46, 32] else []) ++ g (q.getD i 0)))
def dotK (l : List Dm) (u : Int) : Bool := decide (0 ≤ u) && decide (dk l u.toNat = 6)
def jnK (l : List Dm) (g : Nat → List UInt8) (n : Nat) (u : Int) : List UInt8 := jn g (dotK l u) (kid l l.length u).length (kid l n u) (kid l n u).length
/-- A node's text. -/
def tx (l : List Dm) : Nat → Nat → List UInt8
  | 0, _ => []
  | f + 1, k => if dk l k = 3 then quo (dt l k).data.toList else if dk l k = 4 then 35 :: (dt l k).data.toList else if dk l k = 1 ∨ dk l k = 2 then (dt l k).data.toList else 40 :: (jnK l (tx l f) l.length (k : Int) ++ [41])
def TX (l : List Dm) (k : Nat) : List UInt8 := tx l (l.length - k) k

theorem jn_congr {g g' : Nat → List UInt8} {dot : Bool} {m : Nat} {q : List Nat} : ∀ i, i ≤ q.length → (∀ x ∈ q, g x = g' x) → jn g dot m q i = jn g' dot m q i
  | 0, _, _ => rfl
  | i + 1, hi, h => by
    rw [jn, jn, jn_congr i (by omega) h, h (q.getD i 0) (by simp only [List.getD, List.getElem?_eq_getElem (show i < q.length by omega), Option.getD_some]; exact List.getElem_mem _)]
theorem jn_snoc {g : Nat → List UInt8} {dot : Bool} {m : Nat} {q : List Nat} {p : Nat} : ∀ i, i ≤ q.length → jn g dot m (q ++ [p]) i = jn g dot m q i
  | 0, _ => rfl
  | i + 1, hi => by
    rw [jn, jn, jn_snoc i (by omega)]
    congr 4
    simp only [List.getD, List.getElem?_append_left (show i < q.length by omega)]
theorem kid_mem {l : List Dm} {n : Nat} {u : Int} {i : Nat} (h : i ∈ kid l n u) : i < n ∧ u < (i : Int) ∧ du l i = u := by
  unfold kid at h
  obtain ⟨h1, h2⟩ := List.mem_filter.1 h
  simp at h2
  exact ⟨List.mem_range.1 h1, h2.1, h2.2⟩
theorem kid_prt (l : List Dm) (n k : Nat) : kid l n (k : Int) = prt l n k := by
  unfold kid prt
  congr 1
  funext i
  congr 1
  exact decide_eq_decide.2 (by omega)
theorem kid_snoc (l : List Dm) (n : Nat) (u : Int) : kid l (n + 1) u = kid l n u ++ (if u < (n : Int) ∧ du l n = u then [n] else []) := by
  unfold kid
  rw [List.range_succ, List.filter_append]
  congr 1
  by_cases h : u < (n : Int) ∧ du l n = u
  · rw [if_pos h]; simp [h.1, h.2]
  · rw [if_neg h]
    simp only [List.filter_cons, List.filter_nil]
    rw [if_neg (by simpa using h)]
/-- Nodes that are no parts change nothing. -/
theorem kid_skip (l : List Dm) (u : Int) (a : Nat) : ∀ e, a ≤ e → (∀ j, a ≤ j → j < e → ¬ (u < (j : Int) ∧ du l j = u)) → kid l e u = kid l a u
  | 0, h, _ => by rw [show a = 0 by omega]
  | e + 1, h, hj => by
    by_cases he : a = e + 1
    · rw [he]
    · rw [kid_snoc, kid_skip l u a e (by omega) (fun j h1 h2 => hj j h1 (by omega)), if_neg (hj e (by omega) (by omega)), List.append_nil]

/-- The fuel does not matter. -/
theorem tx_fuel (l : List Dm) : ∀ (f f' k : Nat), l.length - k ≤ f → l.length - k ≤ f' → k < l.length → tx l f k = tx l f' k
  | 0, f', k, h, h', hk => by omega
  | f + 1, 0, k, h, h', hk => by omega
  | f + 1, f' + 1, k, h, h', hk => by
    rw [tx, tx]
    have : jnK l (tx l f) l.length (k : Int) = jnK l (tx l f') l.length (k : Int) := by
      unfold jnK
      refine jn_congr _ (Nat.le_refl _) (fun x hx => ?_)
      have hm := kid_mem hx
      exact tx_fuel l f f' x (by omega) (by omega) hm.1
    rw [this]
theorem TX_eq {l : List Dm} {k : Nat} (hk : k < l.length) : TX l k = if dk l k = 3 then quo (dt l k).data.toList else if dk l k = 4 then 35 :: (dt l k).data.toList else if dk l k = 1 ∨ dk l k = 2 then (dt l k).data.toList else 40 :: (jnK l (TX l) l.length (k : Int) ++ [41]) := by
  unfold TX
  obtain ⟨f, hf⟩ : ∃ f, l.length - k = f + 1 := ⟨l.length - k - 1, by omega⟩
  rw [hf, tx]
  have : jnK l (tx l f) l.length (k : Int) = jnK l (fun x => tx l (l.length - x) x) l.length (k : Int) := by
    unfold jnK
    refine jn_congr _ (Nat.le_refl _) (fun x hx => ?_)
    have hm := kid_mem hx
    exact tx_fuel l f (l.length - x) x (by omega) (Nat.le_refl _) hm.1
  rw [this]
/-- One part more. -/
theorem jnK_snoc {l : List Dm} {a e : Nat} {u : Int} (g : Nat → List UInt8) (h : kid l e u = kid l a u ++ [a]) :
    jnK l g e u = jnK l g a u ++ ((if 0 < (kid l a u).length then [32] else []) ++ ((if dotK l u && decide ((kid l a u).length + 1 = (kid l l.length u).length) then [46, 32] else []) ++ g a)) := by
  unfold jnK
  rw [h, List.length_append, List.length_singleton, jn, jn_snoc _ (Nat.le_refl _)]
  congr 3
  simp [List.getD]

/-- All nodes are as they should be. -/
def AllUp (l : List Dm) : Prop := ∀ k, k < l.length → upOk l k = true
theorem AllUp.up {l : List Dm} (h : AllUp l) : ∀ k, k ≤ l.length → Up l k
  | 0, _ => fun i hi => by omega
  | k + 1, hk => (h.up k (by omega)).succ (h k (by omega))
/-- The first node behind all that is in u. -/
structure IsNx (l : List Dm) (u : Int) (e : Nat) : Prop where
  lo : u < (e : Int)
  hi : e ≤ l.length
  mid : ∀ j : Nat, u < (j : Int) → j < e → u ≤ du l j
  out : e < l.length → du l e < u

/-- What is met on the way up from within c, and is ahead of c, is met from c's own list on. -/
theorem chain_sub {l : List Dm} {c : Nat} {t : Int} (hA : AllUp l) : ∀ (m f : Nat), c ≤ m → m < l.length → (∀ j, c < j → j ≤ m → (c : Int) ≤ du l j) → inChain l f (m : Int) t = true → t < (c : Int) → t ≤ du l c
  | m, 0, h1, h2, h3, h4, h5 => by simp [inChain] at h4
  | m, f + 1, h1, h2, h3, h4, h5 => by
    rw [chain_step (by omega) (by omega), Int.toNat_natCast] at h4
    have hU := hA.up l.length (Nat.le_refl _)
    by_cases e : m = c
    · subst e
      exact (chain_le l f l.length _ t hU (by have := hU m h2; omega) h4).2
    · have hc := h3 m (by omega) (Nat.le_refl _)
      have hu := hU m h2
      have : inChain l f (((du l m).toNat : Nat) : Int) t = true := by rw [show (((du l m).toNat : Nat) : Int) = du l m by omega]; exact h4
      exact chain_sub hA (du l m).toNat f (by omega) (by omega) (fun j hj1 hj2 => h3 j hj1 (by omega)) this h5
/-- What is met on the way up from a part. -/
theorem chain_in {l : List Dm} {j : Nat} (hA : AllUp l) (hj : j < l.length) : du l j = -1 ∨ inChain l j ((j : Int) - 1) (du l j) = true := by
  have h := hA j hj
  unfold upOk at h
  simp only [Bool.or_eq_true, Bool.and_eq_true, decide_eq_true_eq] at h
  rcases h with h | h
  · exact .inl h
  · exact .inr h.1
/-- The node behind all that is in c leads to c's list or further up. -/
theorem nx_le {l : List Dm} {c e : Nat} (hA : AllUp l) (h : IsNx l (c : Int) e) (he : e < l.length) : du l e ≤ du l c := by
  have hU := hA.up l.length (Nat.le_refl _)
  have hlo := h.lo
  have hcl : c < l.length := by omega
  rcases chain_in hA he with h1 | h1
  · have := hU c hcl; omega
  · obtain ⟨m, rfl⟩ : ∃ m, e = m + 1 := ⟨e - 1, by omega⟩
    have h2 : inChain l (m + 1) (m : Int) (du l (m + 1)) = true := by rw [show ((m : Nat) : Int) = ((m + 1 : Nat) : Int) - 1 by omega]; exact h1
    exact chain_sub hA m (m + 1) (by omega) (by omega) (fun j hj1 hj2 => h.mid j (by omega) (by omega)) h2 (h.out he)

/-- Behind all that is in u nothing is in u. -/
theorem no_later {l : List Dm} {u : Int} {e : Nat} (hA : AllUp l) (h : IsNx l u e) (hu : 0 ≤ u) : ∀ j, e ≤ j → j < l.length → (∀ f, inChain l f (j : Int) u = false) ∧ du l j ≠ u
  | 0, h1, h2 => by have := h.lo; omega
  | j + 1, h1, h2 => by
    have hU := hA.up l.length (Nat.le_refl _)
    have hne : du l (j + 1) ≠ u := by
      by_cases e1 : e = j + 1
      · subst e1; have := h.out h2; omega
      · obtain ⟨ih, _⟩ := no_later hA h hu j (by omega) (by omega)
        rcases chain_in hA h2 with h3 | h3
        · omega
        · intro e2
          rw [e2] at h3
          have := ih (j + 1)
          rw [show ((j : Nat) : Int) = ((j + 1 : Nat) : Int) - 1 by omega] at this
          rw [this] at h3; cases h3
    refine ⟨fun f => ?_, hne⟩
    cases f with
    | zero => rfl
    | succ f =>
      have hlo := h.lo
      rw [chain_step (by omega) (by omega), Int.toNat_natCast]
      have hd := hU (j + 1) h2
      by_cases e1 : e = j + 1
      · subst e1
        have ho := h.out h2
        cases hc : inChain l f (du l (j + 1)) u with
        | false => rfl
        | true => have := chain_le l f l.length _ u hU (by omega) hc; omega
      · obtain ⟨ih, _⟩ := no_later hA h hu j (by omega) (by omega)
        rcases chain_in hA h2 with h3 | h3
        · rw [h3]; exact chain_end (by omega)
        · cases hc : inChain l f (du l (j + 1)) u with
          | false => rfl
          | true =>
            have h4 := chain_trans l (j + 1) f _ _ u h3 hc
            obtain ⟨f', h4⟩ := h4
            have := ih f'
            rw [show ((j : Nat) : Int) = ((j + 1 : Nat) : Int) - 1 by omega] at this
            rw [this] at h4; cases h4
where
  chain_trans (l : List Dm) : ∀ (f g : Nat) (a b t : Int), inChain l f a b = true → inChain l g b t = true → ∃ h, inChain l h a t = true
    | 0, g, a, b, t, h, _ => by simp [inChain] at h
    | f + 1, g, a, b, t, h, h' => by
      by_cases ha : a < 0
      · rw [inChain, if_pos ha] at h; cases h
      · by_cases hab : a = b
        · subst hab; exact ⟨g, h'⟩
        · rw [chain_step (by omega) hab] at h
          obtain ⟨k, hk⟩ := chain_trans l f g _ b t h h'
          by_cases hat : a = t
          · exact ⟨1, by rw [hat]; exact chain_hit (by omega)⟩
          · exact ⟨k + 1, by rw [chain_step (by omega) hat]; exact hk⟩

/-- Where a part of u, or what is behind all of them, begins. -/
structure AtPart (l : List Dm) (u : Int) (a : Nat) : Prop where
  lo : u < (a : Int)
  hi : a ≤ l.length
  mid : ∀ j : Nat, u < (j : Int) → j < a → u ≤ du l j
  out : a < l.length → du l a ≤ u
  some : 0 < (kid l a u).length ↔ u + 1 < (a : Int)

theorem kid_low (l : List Dm) (u : Int) (a : Nat) (h : (a : Int) ≤ u + 1) : kid l a u = [] := by
  rw [List.eq_nil_iff_forall_not_mem]
  intro i hi
  have := kid_mem hi
  omega
theorem AtPart.start {l : List Dm} {u : Int} {a : Nat} (hA : AllUp l) (ha : (a : Int) = u + 1) (hl : a ≤ l.length) : AtPart l u a := by
  refine ⟨by omega, hl, fun j h1 h2 => by omega, fun h => ?_, ?_⟩
  · have := hA.up l.length (Nat.le_refl _) a h; omega
  · rw [kid_low l u a (by omega)]; simp; omega
theorem AtPart.step {l : List Dm} {u : Int} {a e : Nat} (hA : AllUp l) (h : AtPart l u a) (ha : a < l.length) (hu : du l a = u) (hn : IsNx l (a : Int) e) : AtPart l u e ∧ kid l e u = kid l a u ++ [a] := by
  have hlo := h.lo
  have hne := hn.lo
  have hk : kid l e u = kid l a u ++ [a] := by
    rw [kid_skip l u (a + 1) e (by omega) (fun j h1 h2 => by have := hn.mid j (by omega) h2; omega), kid_snoc, if_pos ⟨hlo, hu⟩]
  refine ⟨⟨by omega, hn.hi, fun j h1 h2 => ?_, fun h1 => ?_, ?_⟩, hk⟩
  · by_cases e1 : j < a
    · exact h.mid j h1 e1
    · by_cases e2 : j = a
      · subst e2; omega
      · have := hn.mid j (by omega) h2; omega
  · have := nx_le hA hn h1; omega
  · rw [hk]; simp; omega
theorem AtPart.done {l : List Dm} {u : Int} {a : Nat} (hA : AllUp l) (h : AtPart l u a) (hx : a < l.length → du l a ≠ u) : IsNx l u a ∧ kid l l.length u = kid l a u := by
  have hI : IsNx l u a := ⟨h.lo, h.hi, h.mid, fun h1 => by have := h.out h1; have := hx h1; omega⟩
  refine ⟨hI, kid_skip l u a l.length h.hi (fun j h1 h2 h3 => ?_)⟩
  have hU := hA.up l.length (Nat.le_refl _)
  by_cases hu : 0 ≤ u
  · exact (no_later hA hI hu j h1 h2).2 h3.2
  · have h4 := hI.out (by omega)
    have h5 := hU a (by omega)
    have h6 := h.lo
    have h7 := hU j h2
    omega
/-- A node that is no list has nothing in it. -/
theorem nx_leaf {l : List Dm} {a : Nat} (hA : AllUp l) (ha : a < l.length) (hl : isL (dk l a) = false) : IsNx l (a : Int) (a + 1) := by
  refine ⟨by omega, by omega, fun j h1 h2 => by omega, fun h1 => ?_⟩
  have h2 := hA.up l.length (Nat.le_refl _) (a + 1) h1
  by_cases e : du l (a + 1) = (a : Int)
  · have h3 := upOk_list (hA (a + 1) h1) (by omega)
    rw [e, Int.toNat_natCast, hl] at h3; cases h3
  · omega
/-- Whether a part stands behind the dot. -/
def behB (l : List Dm) (a : Nat) : Bool := dotK l (du l a) && (!isL (dk l a) && (decide (a + 1 = l.length) || !decide (du l (a + 1) = du l a)))
theorem beh_eq {l : List Dm} {u : Int} {a : Nat} (hA : AllUp l) (hD : ∀ k, k < l.length → dotOk l k = true) (h : AtPart l u a) (ha : a < l.length) (hu : du l a = u) : behB l a = (dotK l u && decide ((kid l a u).length + 1 = (kid l l.length u).length)) := by
  have hlo := h.lo
  have hk1 : kid l (a + 1) u = kid l a u ++ [a] := by rw [kid_snoc, if_pos ⟨hlo, hu⟩]
  unfold behB
  rw [hu]
  cases hdk : dotK l u with
  | false => rfl
  | true =>
    have hd2 : 0 ≤ u ∧ dk l u.toNat = 6 := by unfold dotK at hdk; simpa using hdk
    rw [Bool.true_and, Bool.true_and]
    cases hl : isL (dk l a) with
    | true =>
      rw [Bool.not_true, Bool.false_and]
      symm
      apply decide_eq_false
      intro hlen
      have hdo := hD u.toNat (by omega)
      unfold dotOk at hdo
      rw [decide_eq_true hd2.2, ← kid_prt, show ((u.toNat : Nat) : Int) = u by omega] at hdo
      have hpre : kid l l.length u = kid l (a + 1) u := by
        have hp : ∃ t, kid l l.length u = kid l (a + 1) u ++ t := by
          unfold kid
          refine ⟨((List.range (l.length - (a + 1))).map ((a + 1) + ·)).filter (fun i => decide (u < (i : Int)) && decide (du l i = u)), ?_⟩
          rw [← List.filter_append, ← List.range_add, show a + 1 + (l.length - (a + 1)) = l.length by omega]
        obtain ⟨t, ht⟩ := hp
        have hz : t = [] := by
          have h1 : (kid l l.length u).length = (kid l (a + 1) u).length + t.length := by rw [ht, List.length_append]
          rw [hk1, List.length_append, List.length_singleton] at h1
          exact List.length_eq_zero_iff.1 (by omega)
        rw [ht, hz, List.append_nil]
      rw [hpre, hk1, lastL_snoc, hl] at hdo
      simp at hdo
    | false =>
      rw [Bool.not_false, Bool.true_and]
      obtain ⟨hP, hke⟩ := h.step hA ha hu (nx_leaf hA ha hl)
      by_cases he : a + 1 = l.length
      · rw [decide_eq_true he, Bool.true_or]
        symm
        apply decide_eq_true
        rw [← he, hke]; simp
      · rw [decide_eq_false he, Bool.false_or]
        by_cases hq : du l (a + 1) = u
        · rw [decide_eq_true hq]
          symm
          apply decide_eq_false
          intro hlen
          have hp : ∃ t, kid l l.length u = kid l (a + 1 + 1) u ++ t := by
            unfold kid
            refine ⟨((List.range (l.length - (a + 1 + 1))).map ((a + 1 + 1) + ·)).filter (fun i => decide (u < (i : Int)) && decide (du l i = u)), ?_⟩
            rw [← List.filter_append, ← List.range_add, show a + 1 + 1 + (l.length - (a + 1 + 1)) = l.length by omega]
          obtain ⟨t, ht⟩ := hp
          have h1 : (kid l l.length u).length = (kid l (a + 1 + 1) u).length + t.length := by rw [ht, List.length_append]
          rw [kid_snoc, if_pos ⟨by omega, hq⟩, hk1] at h1
          simp at h1
          omega
        · rw [decide_eq_false hq]
          obtain ⟨_, hd3⟩ := hP.done hA (fun _ => hq)
          symm
          apply decide_eq_true
          rw [hd3, hke]; simp
end Go.Proofs.YtmpghgaijphniaaGreatDoor

/-
  Data in memory: a row of nodes, three cells each.
-/
namespace Go.Proofs.YtmpghgaijphniaaGreatDoor
open Go.RowKit
set_option linter.unusedVariables false

def dmL (d : Dm) : List Value := [.int .i64 d.k, .string d.t, .int .i64 d.u]
def datC (l : List Dm) : Array Value := (l.flatMap dmL).toArray
def DatAt (w : World) (b : Nat) (l : List Dm) : Prop := RowAt w b 37 (datC l)
theorem flat_get : ∀ (l : List Dm) (i j : Nat) (hi : i < l.length), j < 3 → (l.flatMap dmL)[3 * i + j]? = (dmL l[i])[j]?
  | d :: l, 0, j, hi, hj => by
    rw [List.flatMap_cons, List.getElem?_append_left (by simp [dmL]; omega)]; simp
  | d :: l, i + 1, j, hi, hj => by
    rw [List.flatMap_cons, List.getElem?_append_right (by simp [dmL]; omega)]
    have : 3 * (i + 1) + j - (dmL d).length = 3 * i + j := by simp [dmL]; omega
    rw [this, flat_get l i j (by simpa using hi) hj]; simp
theorem dat_len (l : List Dm) : (l.flatMap dmL).length = 3 * l.length := by
  induction l with
  | nil => rfl
  | cons d l ih => rw [List.flatMap_cons, List.length_append, ih]; simp [dmL]; omega
theorem getD_at (l : List Dm) (i : Nat) (hi : i < l.length) : l.getD i default = l[i] := by simp [List.getD, List.getElem?_eq_getElem hi]
theorem dat_cell {w : World} {b : Nat} {l : List Dm} (h : DatAt w b l) (i j : Nat) (hi : i < l.length) (hj : j < 3) (v : Value) (hv : (dmL (l.getD i default))[j]? = some v) : w.cell? ⟨b, 3 * i + j, none⟩ = some v := by
  rw [cell_of_row w b _ _ _ _ h]
  show (l.flatMap dmL).toArray[3 * i + j]? = some v
  rw [List.getElem?_toArray, flat_get l i j hi hj, ← getD_at l i hi]
  exact hv
theorem dat_k {w : World} {b : Nat} {l : List Dm} (h : DatAt w b l) {i : Nat} (hi : i < l.length) : w.cell? ⟨b, i * 3, none⟩ = some (.int .i64 (dk l i)) := by
  have := dat_cell h i 0 hi (by decide) (.int .i64 (dk l i)) rfl
  rwa [show 3 * i + 0 = i * 3 by omega] at this
theorem dat_t {w : World} {b : Nat} {l : List Dm} (h : DatAt w b l) {i : Nat} (hi : i < l.length) : w.cell? ⟨b, i * 3 + 1, none⟩ = some (.string (dt l i)) := by
  have := dat_cell h i 1 hi (by decide) (.string (dt l i)) rfl
  rwa [show 3 * i + 1 = i * 3 + 1 by omega] at this
theorem dat_u {w : World} {b : Nat} {l : List Dm} (h : DatAt w b l) {i : Nat} (hi : i < l.length) : w.cell? ⟨b, i * 3 + 2, none⟩ = some (.int .i64 (du l i)) := by
  have := dat_cell h i 2 hi (by decide) (.int .i64 (du l i)) rfl
  rwa [show 3 * i + 2 = i * 3 + 2 by omega] at this
/-- The slice of a row's all nodes. -/
abbrev slV (b : Nat) (l : List Dm) : Value := .slice (some ⟨b, 0, none⟩) l.length l.length

set_option maxHeartbeats 1000000 in
set_option maxRecDepth 100000 in
theorem isList_any (k : Int) (w : World) : Calls Tryz.prog 34 #[.int .i64 k] w fun e w' => e = .returned (.bool (isL k)) ∧ w' = w := by
  by_cases h5 : k = 5
  · subst h5
    go_enter Tryz.func34, Tryz.ntmps34
    go_wp2
    go_ret
    exact ⟨rfl, rfl⟩
  · have h5' : (k == 5) = false := beq_eq_false_iff_ne.2 h5
    have HN : Hid (isL k = (k == 6)) := by
      unfold Hid isL; rw [decide_eq_false h5, Bool.false_or]; rfl
    clear h5
    go_enter Tryz.func34, Tryz.ntmps34
    go_wp2
    go_ret
    exact ⟨by rw [HN.out]; rfl, rfl⟩
set_option maxHeartbeats 1000000 in
set_option maxRecDepth 100000 in
theorem l3IsList_any (k : Int) (w : World) : Calls Tryz.prog 18 #[.int .i64 k] w fun e w' => e = .returned (.bool (isL k)) ∧ w' = w := by
  by_cases h5 : k = 5
  · subst h5
    go_enter Tryz.func18, Tryz.ntmps18
    go_wp2
    go_ret
    exact ⟨rfl, rfl⟩
  · have h5' : (k == 5) = false := beq_eq_false_iff_ne.2 h5
    have HN : Hid (isL k = (k == 6)) := by
      unfold Hid isL; rw [decide_eq_false h5, Bool.false_or]; rfl
    clear h5
    go_enter Tryz.func18, Tryz.ntmps18
    go_wp2
    go_ret
    exact ⟨by rw [HN.out]; rfl, rfl⟩

theorem upOk_hit {l : List Dm} {k j : Nat} (hy : (j : Int) = du l k) (h : inChain l k ((k : Int) - 1) (j : Int) = true) : upOk l k = isL (dk l j) := by
  unfold upOk
  rw [← hy, h, decide_eq_false (by omega), Int.toNat_natCast]; rfl
theorem upOk_end {l : List Dm} {k : Nat} (h : inChain l k ((k : Int) - 1) (du l k) = false) : upOk l k = decide (du l k = -1) := by
  unfold upOk
  rw [h, Bool.false_and, Bool.or_false]

set_option maxHeartbeats 1000000 in
set_option maxRecDepth 100000 in
theorem goodUp_any (b : Nat) (l : List Dm) (k : Nat) (x : Int) (w : World) (hx : x = (k : Int)) (hk : k < l.length) (hn : l.length ≤ 300) (hD : DatAt w b l) (hU : Up l k) :
    Calls Tryz.prog 24 #[slV b l, .int .i64 x] w fun e w' => e = .returned (.bool (upOk l k)) ∧ w' = w := by
  have HD := hideT' hD
  have HU := hideT' hU
  have hcu := dat_u hD hk
  subst hx
  obtain ⟨y, hy⟩ : ∃ y, y = du l k := ⟨_, rfl⟩
  rw [← hy] at hcu
  have HY := hideT' hy
  clear hD hU hy
  go_enter Tryz.func24, Tryz.ntmps24
  go_wp2_with fail
  go_loopg [5] k (fun g i wr => ∃ (a : Int), i = .int .i64 a ∧ -1 ≤ a ∧ a < (g : Int) ∧ g ≤ k ∧ Hid (inChain l g a y = inChain l k ((k : Int) - 1) y) ∧ wr = w)
  case atStart => exact ⟨(k : Int) - 1, by go_num, by omega, by omega, by omega, rfl, rfl⟩
  case round =>
    obtain ⟨a, rfl, ha, hag, hgk, HC, rfl⟩ := hrel
    by_cases h0 : 0 ≤ a
    · obtain ⟨j, rfl⟩ : ∃ j : Nat, a = (j : Int) := ⟨a.toNat, by omega⟩
      have hcu2 := dat_u HD.out (show j < l.length by omega)
      have hck2 := dat_k HD.out (show j < l.length by omega)
      by_cases h1 : (j : Int) = y
      · subst h1
        have HN : Hid (upOk l k = isL (dk l j)) := upOk_hit HY.out (by
          obtain ⟨g', rfl⟩ : ∃ g', gk = g' + 1 := ⟨gk - 1, by omega⟩
          rw [← HC.out]; exact chain_hit h0)
        go_wp2_with fail
        refine (isList_any _ _).mono ?_
        rintro e w' ⟨rfl, rfl⟩
        rw [← HN.out]
        obtain ⟨o, ho⟩ : ∃ o, o = upOk l k := ⟨_, rfl⟩
        rw [← ho]
        have HO := hideT' ho
        clear ho
        go_wp2
        go_ret
        exact ⟨by rw [← HO.out]; rfl, rfl⟩
      · have h1' : ((j : Int) == y) = false := beq_eq_false_iff_ne.2 h1
        have hu := HU.out j (by omega)
        have HC2 : Hid (inChain l (gk - 1) (du l j) y = inChain l k ((k : Int) - 1) y) := by
          unfold Hid
          obtain ⟨g', rfl⟩ : ∃ g', gk = g' + 1 := ⟨gk - 1, by omega⟩
          rw [← HC.out, chain_step h0 h1, Int.toNat_natCast]; rfl
        clear h1
        go_wp2
        go_roundg (gk - 1)
        case measure => omega
        case rel => exact ⟨du l j, rfl, hu.1, by omega, by omega, HC2, rfl⟩
    · have h1 : a = -1 := by omega
      subst h1
      have HN : Hid (upOk l k = decide (y = -1)) := by
        unfold Hid
        rw [HY.out]
        refine upOk_end ?_
        rw [← HY.out, ← HC.out]
        exact chain_end (by omega)
      by_cases h1 : y = -1
      · subst h1
        go_wp2
        go_ret
        exact ⟨by rw [HN.out]; rfl, rfl⟩
      · rw [decide_eq_false h1] at HN
        have h1' : ((-1 : Int) == y) = false := beq_eq_false_iff_ne.2 (fun e => h1 e.symm)
        clear h1
        go_wp2
        go_ret
        exact ⟨by rw [HN.out]; rfl, rfl⟩

set_option maxHeartbeats 1000000 in
set_option maxRecDepth 100000 in
theorem l3Around_any (b : Nat) (l : List Dm) (k : Nat) (x y : Int) (w : World) (hx : x = (k : Int)) (hy : y = du l k) (hk : k < l.length) (hn : l.length ≤ 300) (hD : DatAt w b l) (hU : Up l k) :
    Calls Tryz.prog 17 #[slV b l, .int .i64 x, .int .i64 y] w fun e w' => e = .returned (.bool (upOk l k)) ∧ w' = w := by
  have HD := hideT' hD
  have HU := hideT' hU
  subst hx
  have HY := hideT' hy
  clear hD hU hy
  by_cases hm : y = -1
  · have HN : Hid (upOk l k = true) := by unfold Hid upOk; rw [← HY.out, decide_eq_true hm]; rfl
    subst hm
    go_enter Tryz.func17, Tryz.ntmps17
    go_wp2
    go_ret
    exact ⟨by rw [HN.out]; rfl, rfl⟩
  · have hm' : (y == -1) = false := beq_eq_false_iff_ne.2 hm
    have HM := hideT' hm
    clear hm
    go_enter Tryz.func17, Tryz.ntmps17
    go_wp2_with fail
    go_loopg [7] k (fun g i wr => ∃ (a : Int), i = .int .i64 a ∧ -1 ≤ a ∧ a < (g : Int) ∧ g ≤ k ∧ Hid (inChain l g a y = inChain l k ((k : Int) - 1) y) ∧ wr = w)
    case atStart => exact ⟨(k : Int) - 1, by go_num, by omega, by omega, by omega, rfl, rfl⟩
    case round =>
      obtain ⟨a, rfl, ha, hag, hgk, HC, rfl⟩ := hrel
      by_cases h0 : 0 ≤ a
      · obtain ⟨j, rfl⟩ : ∃ j : Nat, a = (j : Int) := ⟨a.toNat, by omega⟩
        have hcu2 := dat_u HD.out (show j < l.length by omega)
        have hck2 := dat_k HD.out (show j < l.length by omega)
        by_cases h1 : (j : Int) = y
        · subst h1
          have HN : Hid (upOk l k = isL (dk l j)) := upOk_hit HY.out (by
            obtain ⟨g', rfl⟩ : ∃ g', gk = g' + 1 := ⟨gk - 1, by omega⟩
            rw [← HC.out]; exact chain_hit h0)
          go_wp2_with fail
          refine (l3IsList_any _ _).mono ?_
          rintro e w' ⟨rfl, rfl⟩
          rw [← HN.out]
          obtain ⟨o, ho⟩ : ∃ o, o = upOk l k := ⟨_, rfl⟩
          rw [← ho]
          have HO := hideT' ho
          clear ho
          go_wp2
          (try simp only [Exit.inBlock, Exit.then]); go_ret
          exact ⟨by rw [← HO.out]; rfl, rfl⟩
        · have h1' : ((j : Int) == y) = false := beq_eq_false_iff_ne.2 h1
          have hu := HU.out j (by omega)
          have HC2 : Hid (inChain l (gk - 1) (du l j) y = inChain l k ((k : Int) - 1) y) := by
            unfold Hid
            obtain ⟨g', rfl⟩ : ∃ g', gk = g' + 1 := ⟨gk - 1, by omega⟩
            rw [← HC.out, chain_step h0 h1, Int.toNat_natCast]; rfl
          clear h1
          go_wp2
          go_roundg (gk - 1)
          case measure => omega
          case rel => exact ⟨du l j, rfl, hu.1, by omega, by omega, HC2, rfl⟩
      · have h1 : a = -1 := by omega
        subst h1
        have HN : Hid (upOk l k = false) := by
          unfold Hid
          rw [upOk_end (by rw [← HY.out, ← HC.out]; exact chain_end (by omega)), ← HY.out, decide_eq_false HM.out]
        go_wp2
        go_ret
        exact ⟨by rw [HN.out]; rfl, rfl⟩
end Go.Proofs.YtmpghgaijphniaaGreatDoor

/-
  What is told of a node's text.
-/
namespace Go.Proofs.YtmpghgaijphniaaGreatDoor
open Go.RowKit
set_option linter.unusedVariables false

set_option maxHeartbeats 1000000 in
set_option maxRecDepth 100000 in
theorem inString_any (c : UInt8) (x : Int) (w : World) (hx : x = (c.toNat : Int)) :
    Calls Tryz.prog 49 #[.int .u8 x] w fun e w' => e = .returned (.bool (strC c)) ∧ w' = w := by
  by_cases h1 : 32 ≤ x
  · by_cases h2 : x ≤ 126
    · have HN : Hid (strC c = true) := by unfold Hid strC; simp; omega
      clear hx
      go_enter Tryz.func49, Tryz.ntmps49
      go_wp2
      go_ret
      exact ⟨by rw [HN.out]; rfl, rfl⟩
    · have HN : Hid (strC c = false) := by unfold Hid strC; simp; omega
      have h3 : (x == 10) = false := beq_eq_false_iff_ne.2 (by omega)
      clear hx
      go_enter Tryz.func49, Tryz.ntmps49
      go_wp2
      go_ret
      exact ⟨by rw [HN.out]; rfl, rfl⟩
  · by_cases h3 : x = 10
    · have HN : Hid (strC c = true) := by unfold Hid strC; simp; omega
      have h3' : (x == 10) = true := by rw [h3]; rfl
      clear hx h3
      go_enter Tryz.func49, Tryz.ntmps49
      go_wp2
      go_ret
      exact ⟨by rw [HN.out]; rfl, rfl⟩
    · have HN : Hid (strC c = false) := by unfold Hid strC; simp; omega
      have h3' : (x == 10) = false := beq_eq_false_iff_ne.2 (by omega)
      clear hx h3
      go_enter Tryz.func49, Tryz.ntmps49
      go_wp2
      go_ret
      exact ⟨by rw [HN.out]; rfl, rfl⟩

theorem str_bad {s : ByteArray} (k : Nat) (h : k < s.size) (hb : strC s[k] = false) : s.data.toList.all strC = false := by
  rw [List.all_eq_false]
  exact ⟨s.data.toList[k]'(by simpa using h), List.getElem_mem _, by show ¬ strC s[k] = true; rw [hb]; decide⟩
theorem str_all {s : ByteArray} (h : ∀ (k : Nat) (hk : k < s.size), strC (s[k]'hk) = true) : s.data.toList.all strC = true := by
  rw [List.all_eq_true]
  intro c hc
  obtain ⟨i, hi, rfl⟩ := List.getElem_of_mem hc
  exact h i (by simpa using hi)

set_option maxHeartbeats 1000000 in
set_option maxRecDepth 100000 in
theorem goodString_any (s : ByteArray) (w : World) (hs : s.size ≤ maxLen) :
    Calls Tryz.prog 37 #[.string s] w fun e w' => e = .returned (.bool (strOk s.data.toList)) ∧ w' = w := by
  unfold maxLen at hs
  have hlen : s.data.toList.length = s.size := by simp
  by_cases h1 : (100 : Int) < (s.size : Int)
  · have HN : Hid (strOk s.data.toList = false) := by unfold Hid strOk; rw [hlen, decide_eq_false (show ¬ s.size ≤ 100 by omega)]; rfl
    clear hlen
    go_enter Tryz.func37, Tryz.ntmps37
    go_wp2
    go_ret
    exact ⟨by rw [HN.out]; rfl, rfl⟩
  · have HA : Hid (strOk s.data.toList = s.data.toList.all strC) := by
      unfold Hid strOk
      rw [hlen, decide_eq_true (show s.size ≤ 100 by omega), Bool.true_and]
    clear hlen
    go_enter Tryz.func37, Tryz.ntmps37
    go_wp2_with fail
    go_loopg [9] s.size (fun g i wr => ∃ k : Nat, g = s.size - k ∧ k ≤ s.size ∧ i = .int .i64 (k : Int) ∧ Hid (∀ (j : Nat) (hj : j < s.size), j < k → strC (s[j]'hj) = true) ∧ wr = w)
    case atStart => exact ⟨0, rfl, by omega, rfl, fun j _ hj => by omega, rfl⟩
    case round =>
      obtain ⟨k, hg, hk, rfl, HK, rfl⟩ := hrel
      by_cases hk1 : (k : Int) < (s.size : Int)
      · have hk' : k < s.size := by omega
        go_wp2_with fail
        refine (inString_any (s[k]'hk') _ _ rfl).mono ?_
        rintro e w' ⟨rfl, rfl⟩
        cases hb : strC (s[k]'hk') with
        | true =>
          have HK2 : Hid (∀ (j : Nat) (hj : j < s.size), j < k + 1 → strC (s[j]'hj) = true) := by
            intro j hj hj2
            by_cases e : j = k
            · subst e; exact hb
            · exact HK.out j hj (by omega)
          clear hb
          go_wp2
          go_roundg (s.size - (k + 1))
          case measure => omega
          case rel => exact ⟨k + 1, rfl, by omega, by go_num, HK2, rfl⟩
        | false =>
          have HN : Hid (strOk s.data.toList = false) := by unfold Hid; rw [HA.out]; exact str_bad k hk' hb
          clear hb
          go_wp2
          go_ret
          exact ⟨by rw [HN.out]; rfl, rfl⟩
      · have HN : Hid (strOk s.data.toList = true) := by unfold Hid; rw [HA.out]; exact str_all (fun j hj => HK.out j hj (by omega))
        go_wp2
        go_ret
        exact ⟨by rw [HN.out]; rfl, rfl⟩

set_option maxHeartbeats 1000000 in
set_option maxRecDepth 100000 in
theorem l3String_any (s : ByteArray) (w : World) (hs : s.size ≤ maxLen) :
    Calls Tryz.prog 21 #[.string s] w fun e w' => e = .returned (.bool (strOk s.data.toList)) ∧ w' = w := by
  unfold maxLen at hs
  go_enter Tryz.func21, Tryz.ntmps21
  go_wp2_with fail
  go_loopg [3] s.size (fun g i wr => ∃ k : Nat, g = s.size - k ∧ k ≤ s.size ∧ i = .int .i64 (k : Int) ∧ Hid (∀ (j : Nat) (hj : j < s.size), j < k → strC (s[j]'hj) = true) ∧ wr = w)
  case atStart => exact ⟨0, rfl, by omega, rfl, fun j _ hj => by omega, rfl⟩
  case round =>
    obtain ⟨k, hg, hk, rfl, HK, rfl⟩ := hrel
    by_cases hk1 : (k : Int) < (s.size : Int)
    · have hk' : k < s.size := by omega
      obtain ⟨x, hx⟩ : ∃ x : Int, x = ((s[k]'hk').toNat : Int) := ⟨_, rfl⟩
      have NO : Hid (strC (s[k]'hk') = false → strOk s.data.toList = false) := fun h => by unfold strOk; rw [str_bad k hk' h, Bool.and_false]
      have YES : Hid (strC (s[k]'hk') = true → ∀ (j : Nat) (hj : j < s.size), j < k + 1 → strC (s[j]'hj) = true) := fun hb j hj hj2 => by
        by_cases e : j = k
        · subst e; exact hb
        · exact HK.out j hj (by omega)
      by_cases h1 : x < 32
      · by_cases h3 : x = 10
        · have HK2 := hideT' (YES.out (by unfold strC; simp; omega))
          have f1 : ((s[k]'hk').toNat : Int) < 32 := by omega
          have f2 : (((s[k]'hk').toNat : Int) == 10) = true := by rw [← hx, h3]; rfl
          clear hx h1 h3
          go_wp2
          go_roundg (s.size - (k + 1))
          case measure => omega
          case rel => exact ⟨k + 1, rfl, by omega, by go_num, HK2, rfl⟩
        · have HN := hideT' (NO.out (by unfold strC; simp; omega))
          have f1 : ((s[k]'hk').toNat : Int) < 32 := by omega
          have f2 : (((s[k]'hk').toNat : Int) == 10) = false := beq_eq_false_iff_ne.2 (by omega)
          clear hx h1 h3
          go_wp2
          go_ret
          exact ⟨by rw [HN.out]; rfl, rfl⟩
      · by_cases h2 : 126 < x
        · have HN := hideT' (NO.out (by unfold strC; simp; omega))
          have f1 : ¬ ((s[k]'hk').toNat : Int) < 32 := by omega
          have f3 : (126 : Int) < ((s[k]'hk').toNat : Int) := by omega
          have f2 : (((s[k]'hk').toNat : Int) == 10) = false := beq_eq_false_iff_ne.2 (by omega)
          clear hx h1 h2
          go_wp2
          go_ret
          exact ⟨by rw [HN.out]; rfl, rfl⟩
        · have HK2 := hideT' (YES.out (by unfold strC; simp; omega))
          have f1 : ¬ ((s[k]'hk').toNat : Int) < 32 := by omega
          have f3 : ¬ (126 : Int) < ((s[k]'hk').toNat : Int) := by omega
          clear hx h1 h2
          go_wp2
          go_roundg (s.size - (k + 1))
          case measure => omega
          case rel => exact ⟨k + 1, rfl, by omega, by go_num, HK2, rfl⟩
    · have HN : Hid (strOk s.data.toList = decide ((s.size : Int) ≤ 100)) := by
        unfold Hid strOk
        have hlen : s.data.toList.length = s.size := by simp
        rw [str_all (fun j hj => HK.out j hj (by omega)), Bool.and_true, hlen]
        exact decide_eq_decide.2 (by omega)
      go_wp2
      go_ret
      exact ⟨by rw [HN.out]; rfl, rfl⟩

/-- A node as a value. -/
def dmC (d : Dm) : Array Value := (dmL d).toArray
theorem dm_c0 {w : World} {b : Nat} {d : Dm} (h : RowAt w b 37 (dmC d)) : w.cell? ⟨b, 0, none⟩ = some (.int .i64 d.k) := by rw [cell_of_row w b _ _ _ _ h]; rfl
theorem dm_c1 {w : World} {b : Nat} {d : Dm} (h : RowAt w b 37 (dmC d)) : w.cell? ⟨b, 1, none⟩ = some (.string d.t) := by rw [cell_of_row w b _ _ _ _ h]; rfl
theorem dm_c2 {w : World} {b : Nat} {d : Dm} (h : RowAt w b 37 (dmC d)) : w.cell? ⟨b, 2, none⟩ = some (.int .i64 d.u) := by rw [cell_of_row w b _ _ _ _ h]; rfl

theorem txt_else {k : Int} {t : List UInt8} (h1 : k ≠ 1) (h2 : k ≠ 2) (h3 : k ≠ 3) (h4 : k ≠ 4) : txtOk k t = (isL k && (t == [])) := by
  unfold txtOk; rw [if_neg h1, if_neg h2, if_neg h3, if_neg h4]

set_option maxHeartbeats 1000000 in
set_option maxRecDepth 100000 in
theorem goodText_any (d : Dm) (w : World) (hs : d.t.size ≤ maxLen) (hT : Tab w.heap.size w) :
    Calls Tryz.prog 25 #[.agg (dmC d)] w fun e w' => e = .returned (.bool (txtOk d.k d.t.data.toList)) ∧ Below w.heap.size w w' := by
  have hR := RowAt.new w 37 (dmC d)
  have c0 := dm_c0 hR
  have c1 := dm_c1 hR
  have hB : Below w.heap.size w (w.alloc (.cells (dmC d) 37)) := (Below.refl _ _).alloc (Nat.le_refl _) _
  have HT : Hid (Tab (w.alloc (.cells (dmC d) 37)).heap.size (w.alloc (.cells (dmC d) 37))) := (hT.on hB).up hB.size
  obtain ⟨k, t, u⟩ := d
  simp only at c0 c1 hs ⊢
  clear hT hR
  by_cases h1 : k = 1
  · subst h1
    have HN : Hid (txtOk 1 t.data.toList = okN t.data.toList) := rfl
    go_enter Tryz.func25, Tryz.ntmps25
    go_wp2_with fail
    refine (implGoodNum_any t _ hs).mono ?_
    rintro e w' ⟨rfl, hW⟩
    rw [← HN.out]
    obtain ⟨o, ho⟩ : ∃ o, o = txtOk 1 t.data.toList := ⟨_, rfl⟩
    rw [← ho]
    have HO := hideT' ho
    clear ho
    go_wp2
    (try simp only [Exit.inBlock, Exit.then]); go_ret
    exact ⟨by rw [← HO.out]; rfl, hB.trans (hW.mono hB.size)⟩
  · by_cases h2 : k = 2
    · subst h2
      have HN : Hid (txtOk 2 t.data.toList = symOk t.data.toList) := rfl
      go_enter Tryz.func25, Tryz.ntmps25
      go_wp2_with fail
      refine (implGoodSymbol_any t _ hs HT.out).mono ?_
      rintro e w' ⟨rfl, hW⟩
      rw [← HN.out]
      obtain ⟨o, ho⟩ : ∃ o, o = txtOk 2 t.data.toList := ⟨_, rfl⟩
      rw [← ho]
      have HO := hideT' ho
      clear ho
      go_wp2
      (try simp only [Exit.inBlock, Exit.then]); go_ret
      exact ⟨by rw [← HO.out]; rfl, hB.trans (hW.mono hB.size)⟩
    · by_cases h3 : k = 3
      · subst h3
        have HN : Hid (txtOk 3 t.data.toList = strOk t.data.toList) := rfl
        go_enter Tryz.func25, Tryz.ntmps25
        go_wp2_with fail
        refine (goodString_any t _ hs).mono ?_
        rintro e w' ⟨rfl, rfl⟩
        rw [← HN.out]
        obtain ⟨o, ho⟩ : ∃ o, o = txtOk 3 t.data.toList := ⟨_, rfl⟩
        rw [← ho]
        have HO := hideT' ho
        clear ho
        go_wp2
        (try simp only [Exit.inBlock, Exit.then]); go_ret
        exact ⟨by rw [← HO.out]; rfl, hB⟩
      · by_cases h4 : k = 4
        · subst h4
          have HN : Hid (txtOk 4 t.data.toList = ((t.data.toList == [116]) || (t.data.toList == [102]))) := rfl
          have e1 : (t.toList == [116]) = (t.data.toList == [116]) := by rw [ByteArray.toList_eq]
          have e2 : (t.toList == [102]) = (t.data.toList == [102]) := by rw [ByteArray.toList_eq]
          cases g1 : (t.data.toList == [116]) with
          | true =>
            rw [g1] at e1 HN
            clear g1 e2
            go_enter Tryz.func25, Tryz.ntmps25
            go_wp2
            (try simp only [Exit.inBlock, Exit.then]); go_ret
            exact ⟨by rw [HN.out]; rfl, hB⟩
          | false =>
            rw [g1] at e1 HN
            cases g2 : (t.data.toList == [102]) with
            | true =>
              rw [g2] at e2 HN
              clear g1 g2
              go_enter Tryz.func25, Tryz.ntmps25
              go_wp2
              (try simp only [Exit.inBlock, Exit.then]); go_ret
              exact ⟨by rw [HN.out]; rfl, hB⟩
            | false =>
              rw [g2] at e2 HN
              clear g1 g2
              go_enter Tryz.func25, Tryz.ntmps25
              go_wp2
              (try simp only [Exit.inBlock, Exit.then]); go_ret
              exact ⟨by rw [HN.out]; rfl, hB⟩
        · have HN := hideT' (txt_else (t := t.data.toList) h1 h2 h3 h4)
          have f1 : (k == 1) = false := beq_eq_false_iff_ne.2 h1
          have f2 : (k == 2) = false := beq_eq_false_iff_ne.2 h2
          have f3 : (k == 3) = false := beq_eq_false_iff_ne.2 h3
          have f4 : (k == 4) = false := beq_eq_false_iff_ne.2 h4
          have e1 : (t.toList == []) = (t.data.toList == []) := by rw [ByteArray.toList_eq]
          clear h1 h2 h3 h4
          go_enter Tryz.func25, Tryz.ntmps25
          go_wp2_with fail
          refine (isList_any _ _).mono ?_
          rintro e w' ⟨rfl, rfl⟩
          cases g1 : isL k with
          | false =>
            rw [g1] at HN
            clear g1 e1
            go_wp2
            go_ret
            exact ⟨by rw [HN.out]; rfl, hB⟩
          | true =>
            rw [g1] at HN
            clear g1
            cases g2 : (t.data.toList == []) with
            | true =>
              rw [g2] at e1 HN
              clear g2
              go_wp2
              go_ret
              exact ⟨by rw [HN.out]; rfl, hB⟩
            | false =>
              rw [g2] at e1 HN
              clear g2
              go_wp2
              go_ret
              exact ⟨by rw [HN.out]; rfl, hB⟩
end Go.Proofs.YtmpghgaijphniaaGreatDoor

/-
  Nodes of data, read and written whole; the parts of a list.
-/
namespace Go.Proofs.YtmpghgaijphniaaGreatDoor
open Go.RowKit
set_option linter.unusedVariables false

def DmAt (w : World) (b : Nat) (d : Dm) : Prop := RowAt w b 37 (dmC d)
theorem zero_dm : (∀ w, (zeroValue 37).run Tryz.prog w = .ok (.agg (dmC default)) w) ∧ (Tryz.prog.info? 37).map (·.size) = some 3 := zero_of_info (by kernel_rfl)
theorem dm_info (d : Dm) : (Tryz.prog.info? 37).map (·.size) = some (dmC d).size := zero_dm.2
theorem dmC_one (d : Dm) : (dmC d).all (·.oneCell') = true := all_oneCell_toArray (fun v hv => by
  simp [dmL] at hv
  rcases hv with rfl | rfl | rfl <;> rfl)
theorem dat_range {w : World} {b : Nat} {l : List Dm} (h : DatAt w b l) {i : Nat} (hi : i < l.length) : w.rangeAt b (i * 3) (dmL (l.getD i default)) := fun j v hv => by
  have hj : j < 3 := by
    have := (List.getElem?_eq_some_iff.1 hv).1
    simpa [dmL] using this
  rw [show i * 3 + j = 3 * i + j by omega]
  exact dat_cell h i j hi hj v hv
/-- A node in a row is read. -/
theorem load_dm {ops : Array Oper} {rest : List Oper} {o : Oper} {a : Act} {w : World} {Q : Exit → Act → World → Prop} (hgd : o.guard = none) (x : Operand) (ho : o.op = .load 37 x)
    (b i : Nat) (hx : a.eval x = .pointer (some ⟨b, i * 3, none⟩)) (l : List Dm) (hD : DatAt w b l) (hi : i < l.length) (d : Dm) (hd : l.getD i default = d)
    (h : wpList Tryz.prog ops Q rest (a.put o.dst (.agg (dmC d))) w) : wpList Tryz.prog ops Q (o :: rest) a w := by
  subst hd
  exact wpList_load_mid hgd 37 x ho b (i * 3) hx (dmL (l.getD i default)) _ (dat_range hD hi) Tryz.underlying37 rfl zero_dm.2 h
theorem dm_parts (l : List Dm) (k : Nat) : ∃ (q : Int) (t : ByteArray) (y : Int), l.getD k default = ⟨q, t, y⟩ ∧ q = dk l k ∧ t = dt l k ∧ y = du l k := ⟨dk l k, dt l k, du l k, rfl, rfl, rfl, rfl⟩
/-- A variable is read. -/
theorem load_dv {ops : Array Oper} {rest : List Oper} {o : Oper} {a : Act} {w : World} {Q : Exit → Act → World → Prop} (hgd : o.guard = none) (x : Operand) (ho : o.op = .load 37 x)
    (b : Nat) (hx : a.eval x = .pointer (some ⟨b, 0, none⟩)) (d : Dm) (hN : DmAt w b d)
    (h : wpList Tryz.prog ops Q rest (a.put o.dst (.agg (dmC d))) w) : wpList Tryz.prog ops Q (o :: rest) a w :=
  wpList_load_row hgd 37 x ho b hx 37 (dmC d) (0, 0) _ hN Tryz.underlying37 rfl (dm_info d) h
/-- A variable is written. -/
theorem store_dv {ops : Array Oper} {rest : List Oper} {o : Oper} {a : Act} {w : World} {Q : Exit → Act → World → Prop} (hgd : o.guard = none) (x y : Operand) (ho : o.op = .store 37 x y) (hd : o.dst = none)
    (b : Nat) (d : Dm) (hx : a.eval x = .pointer (some ⟨b, 0, none⟩)) (hy : a.eval y = .agg (dmC d)) (d0 : Dm) (hN : DmAt w b d0)
    (h : ∀ w', DmAt w' b d → w.grownBy w' (some b) → w'.heap.size = w.heap.size → wpList Tryz.prog ops Q rest a w') : wpList Tryz.prog ops Q (o :: rest) a w := by
  refine wpList_store_row hgd 37 x y ho b (dmC d) hx hy 37 (dmC d0) hN (dm_info d) rfl (dmC_one _) ?_
  rw [hd]
  exact h _ (setRow_heap w b _ _ _ _ hN) ⟨rfl, rfl, rfl, by simp, fun k _ hne => setRow_other w b k _ (by intro e; exact hne (by rw [e]))⟩ (by simp)

def natI (q : List Nat) : List Int := q.map (fun j : Nat => (j : Int))
theorem natI_len (q : List Nat) : (natI q).length = q.length := by simp [natI]

set_option maxHeartbeats 1000000 in
set_option maxRecDepth 100000 in
theorem l3Parts_any (b : Nat) (l : List Dm) (k : Nat) (x : Int) (w : World) (hx : x = (k : Int)) (hk : k < l.length) (hn : l.length ≤ 300) (hD : DatAt w b l) :
    Calls Tryz.prog 22 #[slV b l, .int .i64 x] w fun e w' => ∃ v : Value, e = .returned v ∧ w'.ownsRow w.heap.size 3 1 v (prt l l.length k).length (ints (natI (prt l l.length k))) ∧ Below w.heap.size w w' := by
  have HD := hideT' hD
  have hb := RowAt.lt hD
  subst hx
  clear hD
  obtain ⟨i0, hi, hz0, hz1, hz2⟩ := info_parts Tryz.info_int
  go_enter Tryz.func22, Tryz.ntmps22
  go_wp2_with fail
  go_loopg [5, 6] (l.length - (k + 1)) (fun g v x wr => ∃ (j n : Nat), g = l.length - j ∧ j ≤ l.length ∧ k < j ∧ x = .int .i64 (j : Int) ∧ Hid (n = (prt l j k).length) ∧ n ≤ 300 ∧ wr.ownsRow w.heap.size 3 1 v n (ints (natI (prt l j k))) ∧ Below w.heap.size w wr)
  case atStart =>
    refine ⟨k + 1, 0, rfl, by omega, by omega, by go_num, ?_, by omega, ?_, Below.refl _ _⟩
    · unfold Hid; rw [prt_low l k (k + 1) (Nat.le_refl _)]; rfl
    · rw [prt_low l k (k + 1) (Nat.le_refl _)]; exact World.ownsRow_nil _ _ _ _
  case round =>
    obtain ⟨j, n, hg, hj, hkj, rfl, HN, hn3, hown, hW⟩ := hrel
    have hWs := hW.size
    by_cases hlt : (j : Int) < (l.length : Int)
    · have hj' : j < l.length := by omega
      have hcu := dat_u (RowAt.below HD.out hW hb) hj'
      obtain ⟨y, hy⟩ : ∃ y, y = du l j := ⟨_, rfl⟩
      rw [← hy] at hcu
      by_cases h1 : y = (k : Int)
      · have HP : Hid (prt l (j + 1) k = prt l j k ++ [j]) := by unfold Hid; rw [prt_snoc, if_pos ⟨hkj, by rw [← hy, h1]⟩]
        have h1' : (y == (k : Int)) = true := by rw [h1]; exact beq_self_eq_true _
        clear hy h1
        go_wp2_with (first | (at_builtin; refine wpList_append_own _ rfl _ _ 42 rfl w.heap.size 3 i0 (.int .i64 0) 1 8 Tryz.underlying42 hi hz0 hz1 hz2 rfl (by decide) _ _ _ rfl (hown.alloc _) ⟨wr.heap.size, 0, none⟩ 1 1 [.int .i64 (j : Int)] rfl rfl (cell_one_new _ _ _) (one_cell _) (by unfold maxLen; omega) (by omega) (by simp; omega) ?_; intro v' w1 hown' hgrow _))
        go_roundg (l.length - (j + 1))
        case measure => omega
        case rel =>
          have hnl := HN.out
          have hpl := prt_len l (j + 1) k
          rw [HP.out] at hpl
          simp at hpl
          refine ⟨j + 1, n + 1, rfl, by omega, by omega, by go_num, ?_, by omega, ?_, ?_⟩
          · unfold Hid; rw [HP.out, hnl]; simp
          · rw [HP.out]; simpa [ints, natI] using hown'
          · refine Below.grown (hW.alloc hWs _) hgrow (by simp; omega) ?_
            intro k hk; exact own_ge hown hk
      · have HP : Hid (prt l (j + 1) k = prt l j k) := by unfold Hid; rw [prt_snoc, if_neg (fun h => h1 (by rw [hy]; exact h.2)), List.append_nil]
        have h1' : (y == (k : Int)) = false := beq_eq_false_iff_ne.2 h1
        clear hy h1
        go_wp2_with fail
        go_roundg (l.length - (j + 1))
        case measure => omega
        case rel => exact ⟨j + 1, n, rfl, by omega, by omega, by go_num, by unfold Hid; rw [HP.out]; exact HN.out, by omega, by rw [HP.out]; exact hown, hW⟩
    · have hje : j = l.length := by omega
      subst hje
      go_wp2
      go_ret
      exact ⟨_, rfl, by rw [← HN.out]; exact hown, hW⟩
end Go.Proofs.YtmpghgaijphniaaGreatDoor

/-
  What appendString and behindDot of impl answer.
-/
namespace Go.Proofs.YtmpghgaijphniaaGreatDoor
open Go.RowKit
set_option linter.unusedVariables false

/-- A slice of bytes that the call owns. -/
def BytesAt (w : World) (B : Nat) (v : Value) (t : List UInt8) : Prop := w.ownsRow B 5 1 v t.length (Lib.byteCells t)
theorem BytesAt.nil (w : World) (B : Nat) : BytesAt w B (.slice none 0 0) [] := World.ownsRow_nil _ _ _ _
theorem bytes_snoc (t : List UInt8) (c : UInt8) : Lib.byteCells t ++ [Value.int .u8 (c.toNat : Int)] = Lib.byteCells (t ++ [c]) := by simp [Lib.byteCells]
theorem bytes_app (t : List UInt8) (s : ByteArray) : Lib.byteCells t ++ Lib.strCells s = Lib.byteCells (t ++ s.data.toList) := by simp [Lib.byteCells, Lib.strCells]
theorem two_cells (w : World) (t : TypeId) (x y : Value) : ∀ j u, [x, y][j]? = some u → (w.alloc (.cells #[x, y] t)).cell? ((⟨w.heap.size, 0, none⟩ : Addr).add j) = some u := fun j u h => by
  have e : (⟨w.heap.size, 0, none⟩ : Addr).add j = ⟨w.heap.size, j, none⟩ := by unfold Addr.add; split <;> simp_all
  rw [e, cell_of_row _ w.heap.size j #[x, y] t (0, 0) (heap_alloc_new _ _)]
  simpa using h
theorem two_one (x y : Int) : ∀ u ∈ [Value.int .u8 x, Value.int .u8 y], u.oneCell' = true := by
  intro u hu; simp at hu; rcases hu with rfl | rfl <;> rfl

theorem esc_len (c : UInt8) : (escB c).length ≤ 2 := by unfold escB; split <;> (try split) <;> simp
theorem esc_flat : ∀ l : List UInt8, (l.flatMap escB).length ≤ 2 * l.length
  | [] => by simp
  | c :: l => by
    rw [List.flatMap_cons, List.length_append, List.length_cons]
    have := esc_len c
    have := esc_flat l
    omega
theorem take_esc (s : ByteArray) (k : Nat) (h : k < s.size) : (s.data.toList.take (k + 1)).flatMap escB = (s.data.toList.take k).flatMap escB ++ escB s[k] := by
  rw [take_snoc s k h, List.flatMap_append]; simp

set_option maxHeartbeats 1000000 in
set_option maxRecDepth 100000 in
theorem appendString_any (B : Nat) (v : Value) (t : List UInt8) (s : ByteArray) (w : World) (hB : B ≤ w.heap.size) (hv : BytesAt w B v t) (ht : t.length ≤ 1000000000) (hs : s.size ≤ 1048576) :
    Calls Tryz.prog 50 #[v, .string s] w fun e w' => ∃ v' : Value, e = .returned v' ∧ BytesAt w' B v' (t ++ quo s.data.toList) ∧ Below B w w' := by
  obtain ⟨i0, hi, hz0, hz1, hz2⟩ := info_parts info_u8
  have hsl : s.data.toList.length = s.size := by simp
  have HSL := hideT' hsl
  clear hsl
  unfold BytesAt at hv
  obtain ⟨n0, hn0⟩ : ∃ n, n = t.length := ⟨_, rfl⟩
  rw [← hn0] at hv ht
  have HN0 := hideT' hn0
  clear hn0
  go_enter Tryz.func50, Tryz.ntmps50
  go_wp2_with (first | (at_builtin; refine wpList_append_own _ rfl _ _ 49 rfl B 5 i0 (.int .u8 0) 1 1 Tryz.underlying49 hi hz0 hz1 hz2 rfl (by decide) _ _ _ rfl (hv.alloc _) ⟨w.heap.size, 0, none⟩ 1 1 [.int .u8 34] rfl rfl (cell_one_new _ _ _) (one_byte _) (by unfold maxLen; omega) (by omega) (by simp; omega) ?_; intro v1 w1 hv1 hg1 _))
  have hB1 : Below B w w1 := ((Below.refl B w).alloc hB _).grown hg1 (by simp; omega) (fun k hk => own_ge hv hk)
  have hs1 := hB1.size
  have hv1' : w1.ownsRow B 5 1 v1 (n0 + 1) (Lib.byteCells (t ++ [34])) := by rw [← bytes_snoc]; exact hv1
  clear hv1 hg1 hv
  go_loopg [0, 11] s.size (fun g x i wr => ∃ (k n : Nat), g = s.size - k ∧ k ≤ s.size ∧ i = .int .i64 (k : Int) ∧ wr.ownsRow B 5 1 x n (Lib.byteCells (t ++ [34] ++ (s.data.toList.take k).flatMap escB)) ∧ Hid (n = (t ++ [34] ++ (s.data.toList.take k).flatMap escB).length) ∧ n ≤ n0 + 1 + 2 * k ∧ Below B w wr)
  case atStart =>
    refine ⟨0, n0 + 1, rfl, by omega, rfl, ?_, ?_, by omega, hB1⟩
    · simpa using hv1'
    · unfold Hid; rw [HN0.out]; simp
  case round =>
    obtain ⟨k, n, hg, hk, rfl, hv, HN, hn, hW⟩ := hrel
    have hWs := hW.size
    clear hv1' hB1
    by_cases hlt : (k : Int) < (s.size : Int)
    · have hk' : k < s.size := by omega
      have HT2 := hideT' (take_esc s k hk')
      by_cases h34 : s[k] = 34
      · have hb : (s[k].toNat : Int) = 34 := by rw [h34]; rfl
        have HE : Hid (escB s[k] = [92, 34]) := by unfold Hid; rw [h34]; rfl
        clear h34
        go_wp2_with (first | (at_builtin; refine wpList_append_own _ rfl _ _ 49 rfl B 5 i0 (.int .u8 0) 1 1 Tryz.underlying49 hi hz0 hz1 hz2 rfl (by decide) _ _ _ rfl (hv.alloc _) ⟨wr.heap.size, 0, none⟩ 2 2 [.int .u8 92, .int .u8 34] rfl rfl (two_cells _ _ _ _) (two_one _ _) (by unfold maxLen; omega) (by omega) (by simp; omega) ?_; intro v2 w2 hv2 hg2 _))
        go_roundg (s.size - (k + 1))
        case measure => omega
        case rel =>
          refine ⟨k + 1, n + 2, rfl, by omega, by go_num, ?_, ?_, by omega, (hW.alloc (by omega) _).grown hg2 (by simp; omega) (fun k hk => own_ge hv hk)⟩
          · rw [HT2.out, HE.out]; simpa [Lib.byteCells] using hv2
          · unfold Hid; rw [HT2.out, HE.out, HN.out]; simp only [List.length_append, List.length_cons, List.length_nil]; omega
      · have n34 : ((s[k].toNat : Int) == 34) = false := byte_ne (n := 34) (by decide) h34
        by_cases h92 : s[k] = 92
        · have hb : (s[k].toNat : Int) = 92 := by rw [h92]; rfl
          have HE : Hid (escB s[k] = [92, 92]) := by unfold Hid; rw [h92]; rfl
          clear h92 h34 n34
          go_wp2_with (first | (at_builtin; refine wpList_append_own _ rfl _ _ 49 rfl B 5 i0 (.int .u8 0) 1 1 Tryz.underlying49 hi hz0 hz1 hz2 rfl (by decide) _ _ _ rfl (hv.alloc _) ⟨wr.heap.size, 0, none⟩ 2 2 [.int .u8 92, .int .u8 92] rfl rfl (two_cells _ _ _ _) (two_one _ _) (by unfold maxLen; omega) (by omega) (by simp; omega) ?_; intro v2 w2 hv2 hg2 _))
          go_roundg (s.size - (k + 1))
          case measure => omega
          case rel =>
            refine ⟨k + 1, n + 2, rfl, by omega, by go_num, ?_, ?_, by omega, (hW.alloc (by omega) _).grown hg2 (by simp; omega) (fun k hk => own_ge hv hk)⟩
            · rw [HT2.out, HE.out]; simpa [Lib.byteCells] using hv2
            · unfold Hid; rw [HT2.out, HE.out, HN.out]; simp only [List.length_append, List.length_cons, List.length_nil]; omega
        · have n92 : ((s[k].toNat : Int) == 92) = false := byte_ne (n := 92) (by decide) h92
          by_cases h10 : s[k] = 10
          · have hb : (s[k].toNat : Int) = 10 := by rw [h10]; rfl
            have HE : Hid (escB s[k] = [92, 110]) := by unfold Hid; rw [h10]; rfl
            clear h92 h34 n34 n92 h10
            go_wp2_with (first | (at_builtin; refine Lib.wpList_append_own_string _ rfl _ _ 49 9 rfl B 5 i0 Tryz.underlying49 Tryz.underlying9 hi hz0 hz1 hz2 _ _ _ rfl hv ⟨#[92, 110]⟩ rfl (show n + 2 ≤ maxLen by unfold maxLen; omega) (show n + 2 ≤ _ by omega) (by omega) ?_; intro v2 w2 hv2 hg2 _))
            go_roundg (s.size - (k + 1))
            case measure => omega
            case rel =>
              refine ⟨k + 1, n + 2, rfl, by omega, by go_num, ?_, ?_, by omega, hW.grown hg2 (by omega) (fun k hk => own_ge hv hk)⟩
              · have hv3 : w2.ownsRow B 5 1 v2 (n + 2) _ := hv2
                rw [HT2.out, HE.out]; rw [bytes_app] at hv3; simpa using hv3
              · unfold Hid; rw [HT2.out, HE.out, HN.out]; simp only [List.length_append, List.length_cons, List.length_nil]; omega
          · have n10 : ((s[k].toNat : Int) == 10) = false := byte_ne (n := 10) (by decide) h10
            have HE : Hid (escB s[k] = [s[k]]) := by unfold Hid escB; rw [if_neg (by simp [h34, h92]), if_neg h10]
            clear h92 h34 h10
            go_wp2_with (first | (at_builtin; refine wpList_append_own _ rfl _ _ 49 rfl B 5 i0 (.int .u8 0) 1 1 Tryz.underlying49 hi hz0 hz1 hz2 rfl (by decide) _ _ _ rfl (hv.alloc _) ⟨wr.heap.size, 0, none⟩ 1 1 [.int .u8 (s[k].toNat : Int)] rfl rfl (cell_one_new _ _ _) (one_byte _) (by unfold maxLen; omega) (by omega) (by simp; omega) ?_; intro v2 w2 hv2 hg2 _))
            go_roundg (s.size - (k + 1))
            case measure => omega
            case rel =>
              refine ⟨k + 1, n + 1, rfl, by omega, by go_num, ?_, ?_, by omega, (hW.alloc (by omega) _).grown hg2 (by simp; omega) (fun k hk => own_ge hv hk)⟩
              · rw [HT2.out, HE.out]; rw [bytes_snoc] at hv2; simpa using hv2
              · unfold Hid; rw [HT2.out, HE.out, HN.out]; simp only [List.length_append, List.length_cons, List.length_nil]; omega
    · have hke : k = s.size := by omega
      have hfull : Hid (s.data.toList.take k = s.data.toList) := List.take_of_length_le (by rw [HSL.out]; omega)
      clear hke
      go_wp2_with (first | (at_builtin; refine wpList_append_own _ rfl _ _ 49 rfl B 5 i0 (.int .u8 0) 1 1 Tryz.underlying49 hi hz0 hz1 hz2 rfl (by decide) _ _ _ rfl (hv.alloc _) ⟨wr.heap.size, 0, none⟩ 1 1 [.int .u8 34] rfl rfl (cell_one_new _ _ _) (one_byte _) (by unfold maxLen; omega) (by omega) (by simp; omega) ?_; intro v2 w2 hv2 hg2 _))
      go_ret
      refine ⟨v2, rfl, ?_, (hW.alloc (by omega) _).grown hg2 (by simp; omega) (fun k hk => own_ge hv hk)⟩
      have e : t ++ quo s.data.toList = t ++ [34] ++ s.data.toList.flatMap escB ++ [34] := by unfold quo; simp
      have h2 : Lib.byteCells (t ++ [34] ++ (s.data.toList.take k).flatMap escB) ++ [Value.int .u8 34] = Lib.byteCells (t ++ quo s.data.toList) := by rw [hfull.out, e, ← bytes_snoc]; rfl
      have h3 : n + 1 = (t ++ quo s.data.toList).length := by rw [HN.out, hfull.out, e]; simp only [List.length_append, List.length_cons, List.length_nil]
      unfold BytesAt
      rw [← h3, ← h2]
      exact hv2

set_option maxHeartbeats 1000000 in
set_option maxRecDepth 100000 in
theorem behindDot_any (b : Nat) (l : List Dm) (k : Nat) (x : Int) (w : World) (hx : x = (k : Int)) (hk : k < l.length) (hn : l.length ≤ 300) (hD : DatAt w b l) (hu : -1 ≤ du l k ∧ du l k < (k : Int)) :
    Calls Tryz.prog 39 #[slV b l, .int .i64 x] w fun e w' => e = .returned (.bool (behB l k)) ∧ w' = w := by
  subst hx
  have HD := hideT' hD
  have hcu := dat_u hD hk
  have hck := dat_k hD hk
  obtain ⟨y, hy⟩ : ∃ y, y = du l k := ⟨_, rfl⟩
  obtain ⟨q, hq⟩ : ∃ q, q = dk l k := ⟨_, rfl⟩
  rw [← hy] at hcu hu
  rw [← hq] at hck
  have HY := hideT' hy
  have HQ := hideT' hq
  clear hD hy hq
  by_cases h0 : y < 0
  · have HN : Hid (behB l k = false) := by unfold Hid behB dotK; rw [← HY.out, decide_eq_false (by omega)]; rfl
    go_enter Tryz.func39, Tryz.ntmps39
    go_wp2
    go_ret
    exact ⟨by rw [HN.out]; rfl, rfl⟩
  · obtain ⟨j, rfl⟩ : ∃ j : Nat, y = (j : Int) := ⟨y.toNat, by omega⟩
    have hcj := dat_k HD.out (show j < l.length by omega)
    obtain ⟨p, hp⟩ : ∃ p, p = dk l j := ⟨_, rfl⟩
    rw [← hp] at hcj
    by_cases h6 : p = 6
    · have HB : Hid (behB l k = (!isL q && (decide (k + 1 = l.length) || !decide (du l (k + 1) = (j : Int))))) := by
        unfold Hid behB dotK; rw [← HY.out, Int.toNat_natCast, ← hp, h6, ← HQ.out]; rfl
      clear hp
      subst h6
      go_enter Tryz.func39, Tryz.ntmps39
      go_wp2_with fail
      refine (isList_any _ _).mono ?_
      rintro e w' ⟨rfl, rfl⟩
      cases hl : isL q with
      | true =>
        rw [hl] at HB
        clear hl
        go_wp2
        go_ret
        exact ⟨by rw [HB.out]; rfl, rfl⟩
      | false =>
        rw [hl] at HB
        clear hl
        by_cases he : k + 1 = l.length
        · have he' : ((k : Int) + 1 == (l.length : Int)) = true := by rw [← he]; simp
          rw [decide_eq_true he] at HB
          clear he
          go_wp2
          go_ret
          exact ⟨by rw [HB.out]; rfl, rfl⟩
        · have he' : ((k : Int) + 1 == (l.length : Int)) = false := beq_eq_false_iff_ne.2 (by omega)
          have hk2 : k + 1 < l.length := by omega
          have hk3 : (k : Int) + 1 < (l.length : Int) := by omega
          have hcu2 := dat_u HD.out hk2
          obtain ⟨z, hz⟩ : ∃ z, z = du l (k + 1) := ⟨_, rfl⟩
          rw [← hz] at hcu2
          rw [decide_eq_false he, ← hz] at HB
          obtain ⟨k1, hk1⟩ : ∃ k1, k1 = k + 1 := ⟨_, rfl⟩
          rw [← hk1] at hcu2
          have hkk : (k : Int) + 1 = (k1 : Int) := by omega
          clear he hz hk1
          rw [hkk] at he' hk3
          go_wp2
          go_ret
          exact ⟨by rw [HB.out]; rfl, rfl⟩
    · have h6' : (p != 6) = true := by simpa using h6
      have HN : Hid (behB l k = false) := by unfold Hid behB dotK; rw [← HY.out, Int.toNat_natCast, ← hp, decide_eq_false h6]; simp
      clear hp h6
      go_enter Tryz.func39, Tryz.ntmps39
      go_wp2
      go_ret
      exact ⟨by rw [HN.out]; rfl, rfl⟩
end Go.Proofs.YtmpghgaijphniaaGreatDoor

/-
  What spec.l3Quote answers.
-/
namespace Go.Proofs.YtmpghgaijphniaaGreatDoor
open Go.RowKit
set_option linter.unusedVariables false

theorem ba_app (a b : ByteArray) : (a ++ b).data.toList = a.data.toList ++ b.data.toList := by
  rw [ByteArray.data_append, Array.toList_append]

set_option maxHeartbeats 1000000 in
set_option maxRecDepth 100000 in
theorem l3Quote_any (s : ByteArray) (w : World) (hs : s.size ≤ 1048576) :
    Calls Tryz.prog 38 #[.string s] w fun e w' => (∃ q : ByteArray, e = .returned (.string q) ∧ q.data.toList = quo s.data.toList) ∧ w' = w := by
  have hsl : s.data.toList.length = s.size := by simp
  have HSL := hideT' hsl
  clear hsl
  go_enter Tryz.func38, Tryz.ntmps38
  go_wp2_with fail
  go_loopg [3, 4] s.size (fun g x i wr => ∃ (k : Nat) (o : ByteArray), g = s.size - k ∧ k ≤ s.size ∧ i = .int .i64 (k : Int) ∧ x = .string o ∧ Hid (o.data.toList = 34 :: (s.data.toList.take k).flatMap escB) ∧ wr = w)
  case atStart => exact ⟨0, ⟨#[34]⟩, rfl, by omega, rfl, rfl, by unfold Hid; simp, rfl⟩
  case round =>
    obtain ⟨k, o, hg, hk, rfl, rfl, HO, rfl⟩ := hrel
    by_cases hlt : (k : Int) < (s.size : Int)
    · have hk' : k < s.size := by omega
      have HT2 := hideT' (take_esc s k hk')
      have HX := hideT' (ext_list s k hk')
      obtain ⟨k1, hk1⟩ : ∃ k1, k1 = k + 1 := ⟨_, rfl⟩
      have hwk : IntKind.i64.wrap ((k : Int) + 1) = (k1 : Int) := by rw [IntKind.wrap_i64]; omega
      have hk1' : (k1 : Int) ≤ (s.size : Int) := by omega
      have hkk : (k : Int) ≤ (k1 : Int) := by omega
      rw [← hk1] at HX HT2
      have HK1 := hideT' hk1
      clear hk1
      have hos : o.size ≤ 3000000 := by
        have h1 : o.data.toList.length = o.size := by simp
        have h2 := esc_flat (s.data.toList.take k)
        have h3 : (s.data.toList.take k).length ≤ s.size := by rw [List.length_take, HSL.out]; omega
        rw [HO.out, List.length_cons] at h1
        omega
      have hc1 : ¬ 9223372036854775807 < o.size + (1 + (min k1 s.size - k)) := by omega
      have hc2 : ¬ 9223372036854775807 < o.size + (min k1 s.size - k) := by omega
      have hc3 : ¬ 9223372036854775807 < o.size + 2 := by omega
      have hc4 : ¬ 9223372036854775807 < 1 + (min k1 s.size - k) := by omega
      by_cases h34 : s[k] = 34
      · have hb : (s[k].toNat : Int) = 34 := by rw [h34]; rfl
        have HE : Hid (escB s[k] = [92, s[k]]) := by unfold Hid; rw [h34]; rfl
        clear h34
        go_wp2_with fail
        go_roundg (s.size - (k + 1))
        case measure => omega
        case rel =>
          refine ⟨k + 1, _, rfl, by omega, by rw [← HK1.out], rfl, ?_, rfl⟩
          unfold Hid
          rw [ba_app, ba_app, HO.out, HX.out, ← HK1.out, HT2.out, HE.out]; simp
      · have n34 : ((s[k].toNat : Int) == 34) = false := byte_ne (n := 34) (by decide) h34
        by_cases h92 : s[k] = 92
        · have hb : (s[k].toNat : Int) = 92 := by rw [h92]; rfl
          have HE : Hid (escB s[k] = [92, s[k]]) := by unfold Hid; rw [h92]; rfl
          clear h92 h34 n34
          go_wp2_with fail
          go_roundg (s.size - (k + 1))
          case measure => omega
          case rel =>
            refine ⟨k + 1, _, rfl, by omega, by rw [← HK1.out], rfl, ?_, rfl⟩
            unfold Hid
            rw [ba_app, ba_app, HO.out, HX.out, ← HK1.out, HT2.out, HE.out]; simp
        · have n92 : ((s[k].toNat : Int) == 92) = false := byte_ne (n := 92) (by decide) h92
          by_cases h10 : s[k] = 10
          · have hb : (s[k].toNat : Int) = 10 := by rw [h10]; rfl
            have HE : Hid (escB s[k] = [92, 110]) := by unfold Hid; rw [h10]; rfl
            clear h92 h34 n34 n92 h10
            go_wp2_with fail
            go_roundg (s.size - (k + 1))
            case measure => omega
            case rel =>
              refine ⟨k + 1, _, rfl, by omega, by rw [← HK1.out], rfl, ?_, rfl⟩
              unfold Hid
              rw [ba_app, HO.out, ← HK1.out, HT2.out, HE.out]; simp
          · have n10 : ((s[k].toNat : Int) == 10) = false := byte_ne (n := 10) (by decide) h10
            have HE : Hid (escB s[k] = [s[k]]) := by unfold Hid escB; rw [if_neg (by simp [h34, h92]), if_neg h10]
            clear h92 h34 h10
            go_wp2_with fail
            go_roundg (s.size - (k + 1))
            case measure => omega
            case rel =>
              refine ⟨k + 1, _, rfl, by omega, by rw [← HK1.out], rfl, ?_, rfl⟩
              unfold Hid
              rw [ba_app, HO.out, HX.out, ← HK1.out, HT2.out, HE.out]; simp
    · have hfull : Hid (s.data.toList.take k = s.data.toList) := List.take_of_length_le (by rw [HSL.out]; omega)
      have hos : o.size ≤ 3000000 := by
        have h1 : o.data.toList.length = o.size := by simp
        have h2 := esc_flat (s.data.toList.take k)
        have h3 : (s.data.toList.take k).length ≤ s.size := by rw [List.length_take, HSL.out]; omega
        rw [HO.out, List.length_cons] at h1
        omega
      have hc1 : ¬ 9223372036854775807 < o.size + 1 := by omega
      go_wp2
      go_ret
      refine ⟨⟨_, rfl, ?_⟩, rfl⟩
      rw [ba_app, HO.out, hfull.out]
      unfold quo
      simp
end Go.Proofs.YtmpghgaijphniaaGreatDoor

/-
  What spec.GoodData answers.
-/
namespace Go.Proofs.YtmpghgaijphniaaGreatDoor
open Go.RowKit
set_option linter.unusedVariables false

theorem dm_c1x {w : World} {b : Nat} {q : Int} {t : ByteArray} {y : Int} (h : DmAt w b ⟨q, t, y⟩) : w.cell? ⟨b, 1, none⟩ = some (.string t) := dm_c1 h
theorem node_eq {l : List Dm} {k : Nat} {q : Int} {t : ByteArray} {c : Nat} (hU : upOk l k = true) (hq : q = dk l k) (ht : t = dt l k) (hc : c = dep l (k + 1) (k : Int)) :
    nodeOk l k = ((txtOk q t.data.toList && decide ((c : Int) ≤ 25)) && dotOk l k) := by
  unfold nodeOk deepOk
  rw [hU, Bool.true_and, ← hq, ← ht, ← hc]
  congr 2
  exact decide_eq_decide.2 (by omega)
theorem dot_not6 {l : List Dm} {k : Nat} {q : Int} (hq : q = dk l k) (h : q ≠ 6) : dotOk l k = true := by
  unfold dotOk; rw [← hq, decide_eq_false h]; rfl
theorem dot_6 {l : List Dm} {k : Nat} (hq : (6 : Int) = dk l k) : dotOk l k = (decide (2 ≤ (prt l l.length k).length) && !lastL l (prt l l.length k)) := by
  unfold dotOk; rw [← hq]; rfl
theorem lastL_get {l : List Dm} {q : List Nat} (h : 0 < q.length) : lastL l q = isL (dk l (q.getD (q.length - 1) 0)) := by
  unfold lastL
  rw [List.getLast?_eq_getElem?, List.getElem?_eq_getElem (by omega)]
  simp [List.getD, List.getElem?_eq_getElem (show q.length - 1 < q.length by omega)]
theorem natI_get (q : List Nat) (i : Nat) : (natI q).getD i 0 = ((q.getD i 0 : Nat) : Int) := by
  unfold natI
  simp only [List.getD, List.getElem?_map]
  cases q[i]? <;> rfl
theorem prt_at {l : List Dm} {n k i : Nat} (h : i < (prt l n k).length) : (prt l n k).getD i 0 < n := by
  refine prt_mem (l := l) (n := n) (k := k) ?_
  simp only [List.getD, List.getElem?_eq_getElem h, Option.getD_some]
  exact List.getElem_mem _

set_option maxHeartbeats 4000000 in
set_option maxRecDepth 100000 in
theorem specGoodData_any (b : Nat) (l : List Dm) (w : World) (hs : ∀ i, i < l.length → (dt l i).size ≤ maxLen) (hD : DatAt w b l) :
    Calls Tryz.prog 7 #[slV b l] w fun e w' => e = .returned (.bool (goodAll l)) ∧ Below w.heap.size w w' := by
  have hz := zero_dm.1
  have HD := hideT' hD
  have HS := hideT' hs
  have hb := RowAt.lt hD
  clear hD hs
  by_cases hn : (300 : Int) < (l.length : Int)
  · have HN : Hid (goodAll l = false) := by unfold Hid goodAll; rw [decide_eq_false (by omega)]; rfl
    go_enter Tryz.func7, Tryz.ntmps7
    go_wp2
    go_ret
    exact ⟨by rw [HN.out]; rfl, Below.refl _ _⟩
  · have hn3 : l.length ≤ 300 := by omega
    go_enter Tryz.func7, Tryz.ntmps7
    go_wp2_with fail
    go_loopg [14] l.length (fun g i wr => ∃ k : Nat, g = l.length - k ∧ k ≤ l.length ∧ i = .int .i64 (k : Int) ∧ Hid (∀ j, j < k → nodeOk l j = true) ∧ Hid (Up l k) ∧ Below w.heap.size w wr)
    case atStart => exact ⟨0, rfl, by omega, rfl, fun j hj => by omega, fun j hj => by omega, Below.refl _ _⟩
    case round =>
      obtain ⟨k, hg, hk, rfl, HK, HU, hW⟩ := hrel
      have hWs := hW.size
      by_cases hlt : (k : Int) < (l.length : Int)
      · have hk' : k < l.length := by omega
        have hDr : DatAt wr b l := RowAt.below HD.out hW hb
        have A : DmAt (wr.alloc (.cells (dmC default) 37)) wr.heap.size default := RowAt.new wr _ _
        obtain ⟨q, t, y, hd, hq, ht, hy⟩ := dm_parts l k
        have HDM := hideT' hd
        have HQ := hideT' hq
        have HTX := hideT' ht
        have HY := hideT' hy
        have hts : t.size ≤ maxLen := by rw [ht]; exact HS.out k hk'
        clear hd hq ht hy
        go_wp2_with (first | (refine load_dm rfl _ rfl b k rfl l hDr hk' ⟨q, t, y⟩ HDM.out ?_) | (refine store_dv rfl _ _ rfl rfl wr.heap.size ⟨q, t, y⟩ rfl rfl default A ?_; intro w1 hN1 hg1 hs1; have c0 : w1.cell? ⟨wr.heap.size, 0, none⟩ = some (.int .i64 q) := dm_c0 hN1; have c1 : w1.cell? ⟨wr.heap.size, 1, none⟩ = some (.string t) := dm_c1 hN1; have c2 : w1.cell? ⟨wr.heap.size, 2, none⟩ = some (.int .i64 y) := dm_c2 hN1))
        have hW1 : Below w.heap.size w w1 := (hW.alloc hWs _).grown hg1 (by simp; omega) (by intro k hk; cases hk; omega)
        have hD1 : DatAt w1 b l := RowAt.below HD.out hW1 hb
        have hs1' : w1.heap.size = wr.heap.size + 1 := by rw [hs1]; simp
        clear A hg1 hs1 hDr hW
        have NO : Hid (nodeOk l k = false → goodAll l = false) := fun h => node_bad hk' h
        refine (l1In_any y (-1) _ _).mono ?_
        rintro e w' ⟨rfl, rfl⟩
        cases hin : (decide (-1 ≤ y) && decide (y ≤ (k : Int) - 1)) with
        | false =>
          have HF := hideT' (NO.out (node_upBad (by
            cases hu : upOk l k with
            | false => rfl
            | true =>
              have h2 := upOk_up HU.out hu
              rw [← HY.out] at h2
              rw [decide_eq_true h2.1, decide_eq_true (by omega)] at hin
              cases hin)))
          clear hin
          go_wp2
          go_ret
          exact ⟨by rw [HF.out]; rfl, hW1⟩
        | true =>
          clear hin
          go_wp2_with fail
          refine (l3Around_any b l k _ y _ rfl HY.out hk' hn3 hD1 HU.out).mono ?_
          rintro e w' ⟨rfl, rfl⟩
          cases hu : upOk l k with
          | false =>
            have HF := hideT' (NO.out (node_upBad hu))
            clear hu
            go_wp2
            go_ret
            exact ⟨by rw [HF.out]; rfl, hW1⟩
          | true =>
            have HOK := hideT' hu
            have HU2 : Hid (Up l (k + 1)) := HU.out.succ hu
            clear hu
            go_wp2_with fail
            go_loopg [5, 6] (k + 1) (fun g dp i wq => ∃ (c : Nat) (a : Int), dp = .int .i64 (c : Int) ∧ i = .int .i64 a ∧ -1 ≤ a ∧ a < (g : Int) ∧ c + g ≤ k + 1 ∧ Hid (c + dep l g a = dep l (k + 1) (k : Int)) ∧ wq = w')
            case atStart => exact ⟨0, (k : Int), rfl, rfl, by omega, by omega, by omega, by unfold Hid; omega, rfl⟩
            case round =>
              obtain ⟨c, a, rfl, rfl, ha, hag, hcg, HC, rfl⟩ := hrel
              by_cases h0 : 0 ≤ a
              · obtain ⟨j, rfl⟩ : ∃ j : Nat, a = (j : Int) := ⟨a.toNat, by omega⟩
                have hcu2 := dat_u hD1 (show j < l.length by omega)
                have hck2 := dat_k hD1 (show j < l.length by omega)
                have hu := HU2.out j (by omega)
                obtain ⟨gk', rfl⟩ : ∃ g', gk = g' + 1 := ⟨gk - 1, by omega⟩
                have HC1 : Hid (c + ((if isL (dk l j) then 1 else 0) + dep l gk' (du l j)) = dep l (k + 1) (k : Int)) := by
                  have := HC.out
                  rw [dep_step h0, Int.toNat_natCast] at this
                  exact this
                go_wp2_with fail
                refine (l3IsList_any _ _).mono ?_
                rintro e w2 ⟨rfl, rfl⟩
                cases hl : isL (dk l j) with
                | true =>
                  have HC2 : Hid (c + 1 + dep l gk' (du l j) = dep l (k + 1) (k : Int)) := by
                    have := HC1.out
                    rw [hl, if_pos rfl] at this
                    unfold Hid; omega
                  clear hl
                  go_wp2
                  go_roundg gk'
                  case measure => omega
                  case rel => exact ⟨c + 1, du l j, by go_num, rfl, hu.1, by omega, by omega, HC2, rfl⟩
                | false =>
                  have HC2 : Hid (c + dep l gk' (du l j) = dep l (k + 1) (k : Int)) := by
                    have := HC1.out
                    rw [hl] at this
                    simp only [Bool.false_eq_true, if_false, Nat.zero_add] at this
                    exact this
                  clear hl
                  go_wp2
                  go_roundg gk'
                  case measure => omega
                  case rel => exact ⟨c, du l j, rfl, rfl, hu.1, by omega, by omega, HC2, rfl⟩
              · have HND : Hid (nodeOk l k = ((txtOk q t.data.toList && decide ((c : Int) ≤ 25)) && dotOk l k)) := node_eq HOK.out HQ.out HTX.out (by
                  have := HC.out
                  rw [dep_end (by omega)] at this
                  omega)
                have GO : Hid (nodeOk l k = true → ∀ j, j < k + 1 → nodeOk l j = true) := fun h j hj => by
                  by_cases e : j = k
                  · subst e; exact h
                  · exact HK.out j (by omega)
                have e0 : (t.toList == []) = (t.data.toList == []) := by rw [ByteArray.toList_eq]
                have e1 : (t.toList == [116]) = (t.data.toList == [116]) := by rw [ByteArray.toList_eq]
                have e2 : (t.toList == [102]) = (t.data.toList == [102]) := by rw [ByteArray.toList_eq]
                clear HC HK
                by_cases hc : (c : Int) ≤ 25
                · rw [decide_eq_true hc] at HND
                  by_cases h1 : q = 1
                  · subst h1
                    have HND2 : Hid (nodeOk l k = okN t.data.toList) := by unfold Hid; rw [HND.out, dot_not6 HQ.out (by decide), Bool.and_true, Bool.and_true]; rfl
                    go_wp2_with fail
                    refine (specGoodNum_any t _ hts).mono ?_
                    rintro e w3 ⟨rfl, hW3⟩
                    have hW13 := hW1.trans (hW3.mono hW1.size)
                    cases ho : okN t.data.toList with
                    | true =>
                      have HK2 := hideT' (GO.out (by rw [HND2.out]; exact ho))
                      clear ho
                      go_wp2
                      go_roundg (l.length - (k + 1))
                      case measure => omega
                      case rel => exact ⟨k + 1, rfl, by omega, by go_num, HK2, HU2, hW13⟩
                    | false =>
                      have HF := hideT' (NO.out (by rw [HND2.out]; exact ho))
                      clear ho
                      go_wp2
                      go_ret
                      exact ⟨by rw [HF.out]; rfl, hW13⟩
                  · by_cases h2 : q = 2
                    · subst h2
                      have HND2 : Hid (nodeOk l k = symOk t.data.toList) := by unfold Hid; rw [HND.out, dot_not6 HQ.out (by decide), Bool.and_true, Bool.and_true]; rfl
                      go_wp2_with fail
                      refine (l3Symbol_any t _ hts).mono ?_
                      rintro e w3 ⟨rfl, hW3⟩
                      have hW13 := hW1.trans (hW3.mono hW1.size)
                      cases ho : symOk t.data.toList with
                      | true =>
                        have HK2 := hideT' (GO.out (by rw [HND2.out]; exact ho))
                        clear ho
                        go_wp2
                        go_roundg (l.length - (k + 1))
                        case measure => omega
                        case rel => exact ⟨k + 1, rfl, by omega, by go_num, HK2, HU2, hW13⟩
                      | false =>
                        have HF := hideT' (NO.out (by rw [HND2.out]; exact ho))
                        clear ho
                        go_wp2
                        go_ret
                        exact ⟨by rw [HF.out]; rfl, hW13⟩
                    · by_cases h3 : q = 3
                      · subst h3
                        have HND2 : Hid (nodeOk l k = strOk t.data.toList) := by unfold Hid; rw [HND.out, dot_not6 HQ.out (by decide), Bool.and_true, Bool.and_true]; rfl
                        go_wp2_with fail
                        refine (l3String_any t _ hts).mono ?_
                        rintro e w3 ⟨rfl, rfl⟩
                        cases ho : strOk t.data.toList with
                        | true =>
                          have HK2 := hideT' (GO.out (by rw [HND2.out]; exact ho))
                          clear ho
                          go_wp2
                          go_roundg (l.length - (k + 1))
                          case measure => omega
                          case rel => exact ⟨k + 1, rfl, by omega, by go_num, HK2, HU2, hW1⟩
                        | false =>
                          have HF := hideT' (NO.out (by rw [HND2.out]; exact ho))
                          clear ho
                          go_wp2
                          go_ret
                          exact ⟨by rw [HF.out]; rfl, hW1⟩
                      · by_cases h4 : q = 4
                        · subst h4
                          have HND2 : Hid (nodeOk l k = ((t.data.toList == [116]) || (t.data.toList == [102]))) := by unfold Hid; rw [HND.out, dot_not6 HQ.out (by decide), Bool.and_true, Bool.and_true]; rfl
                          cases g1 : (t.data.toList == [116]) with
                          | true =>
                            rw [g1] at e1
                            have HK2 := hideT' (GO.out (by rw [HND2.out, g1]; rfl))
                            clear g1 e0 e2
                            go_wp2
                            go_roundg (l.length - (k + 1))
                            case measure => omega
                            case rel => exact ⟨k + 1, rfl, by omega, by go_num, HK2, HU2, hW1⟩
                          | false =>
                            rw [g1] at e1
                            cases g2 : (t.data.toList == [102]) with
                            | true =>
                              rw [g2] at e2
                              have HK2 := hideT' (GO.out (by rw [HND2.out, g1, g2]; rfl))
                              clear g1 g2 e0
                              go_wp2
                              go_roundg (l.length - (k + 1))
                              case measure => omega
                              case rel => exact ⟨k + 1, rfl, by omega, by go_num, HK2, HU2, hW1⟩
                            | false =>
                              rw [g2] at e2
                              have HF := hideT' (NO.out (by rw [HND2.out, g1, g2]; rfl))
                              clear g1 g2 e0
                              go_wp2
                              go_ret
                              exact ⟨by rw [HF.out]; rfl, hW1⟩
                        · by_cases h5 : q = 5
                          · subst h5
                            have HND2 : Hid (nodeOk l k = (t.data.toList == [])) := by unfold Hid; rw [HND.out, dot_not6 HQ.out (by decide), Bool.and_true, Bool.and_true]; rfl
                            cases g1 : (t.data.toList == []) with
                            | true =>
                              rw [g1] at e0
                              have HK2 := hideT' (GO.out (by rw [HND2.out]; exact g1))
                              clear g1 e1 e2
                              go_wp2
                              go_roundg (l.length - (k + 1))
                              case measure => omega
                              case rel => exact ⟨k + 1, rfl, by omega, by go_num, HK2, HU2, hW1⟩
                            | false =>
                              rw [g1] at e0
                              have HF := hideT' (NO.out (by rw [HND2.out]; exact g1))
                              clear g1 e1 e2
                              go_wp2
                              go_ret
                              exact ⟨by rw [HF.out]; rfl, hW1⟩
                          · by_cases h6 : q = 6
                            · subst h6
                              have HND2 : Hid (nodeOk l k = ((t.data.toList == []) && (decide (2 ≤ (prt l l.length k).length) && !lastL l (prt l l.length k)))) := by unfold Hid; rw [HND.out, dot_6 HQ.out, Bool.and_true]; rfl
                              go_wp2_with fail
                              refine (l3Parts_any b l k _ _ rfl hk' hn3 hD1).mono ?_
                              rintro e w3 ⟨v, rfl, hown, hW3⟩
                              have hW13 := hW1.trans (hW3.mono hW1.size)
                              have c1' := dm_c1x (RowAt.below hN1 hW3 (by omega))
                              have hD3 : DatAt w3 b l := RowAt.below HD.out hW13 hb
                              have hpl := prt_len l l.length k
                              have PM : Hid (∀ i, i < (prt l l.length k).length → (prt l l.length k).getD i 0 < l.length) := fun i hi => prt_at hi
                              have LG : Hid (0 < (prt l l.length k).length → lastL l (prt l l.length k) = isL (dk l ((prt l l.length k).getD ((prt l l.length k).length - 1) 0))) := fun h => lastL_get h
                              have OC : Hid (0 < (prt l l.length k).length → ∃ g cap, v = .slice (some ⟨g, 0, none⟩) (prt l l.length k).length cap ∧ w3.cell? ⟨g, (prt l l.length k).length - 1, none⟩ = some (.int .i64 (((prt l l.length k).getD ((prt l l.length k).length - 1) 0 : Nat) : Int)) ∧ (prt l l.length k).length ≤ cap) := fun h => by
                                obtain ⟨g, cap, rfl, _, _, hcap, _⟩ := own_form hown h
                                have := own_cell hown ((prt l l.length k).length - 1) (by rw [natI_len]; omega)
                                rw [natI_get] at this
                                exact ⟨g, cap, rfl, this, hcap⟩
                              obtain ⟨o, cap, hv⟩ := own_form8 hown
                              obtain ⟨P, hP⟩ : ∃ P, P = prt l l.length k := ⟨_, rfl⟩
                              rw [← hP] at HND2 hpl PM LG OC hv
                              clear hP hown hW3
                              obtain ⟨m, hm⟩ : ∃ m, m = P.length := ⟨_, rfl⟩
                              rw [← hm] at HND2 hpl PM LG OC hv
                              clear hm
                              cases g1 : (t.data.toList == []) with
                              | false =>
                                rw [g1] at e0
                                have HF := hideT' (NO.out (by rw [HND2.out, g1]; rfl))
                                subst hv
                                clear g1 e1 e2 OC
                                go_wp2
                                go_ret
                                exact ⟨by rw [HF.out]; rfl, hW13⟩
                              | true =>
                                rw [g1] at e0
                                by_cases hm1 : (1 : Int) < (m : Int)
                                · obtain ⟨g, cap', hv', hcl, hcap⟩ := OC.out (by omega)
                                  subst hv'
                                  clear hv
                                  obtain ⟨z, hz'⟩ : ∃ z, z = P.getD (m - 1) 0 := ⟨_, rfl⟩
                                  have hzl : z < l.length := by rw [hz']; exact PM.out _ (by omega)
                                  rw [← hz'] at hcl
                                  have HND3 : Hid (nodeOk l k = !isL (dk l z)) := by unfold Hid; rw [HND2.out, g1, decide_eq_true (by omega), LG.out (by omega), ← hz']; rfl
                                  obtain ⟨m1, rfl⟩ : ∃ m1, m = m1 + 1 := ⟨m - 1, by omega⟩
                                  rw [Nat.add_sub_cancel] at hcl
                                  have hck := dat_k hD3 hzl
                                  clear g1 e1 e2 OC hz' HND2 LG PM
                                  go_wp2_with fail
                                  refine (l3IsList_any _ _).mono ?_
                                  rintro e w4 ⟨rfl, rfl⟩
                                  cases ho : isL (dk l z) with
                                  | false =>
                                    have HK2 := hideT' (GO.out (by rw [HND3.out, ho]; rfl))
                                    clear ho
                                    go_wp2
                                    go_roundg (l.length - (k + 1))
                                    case measure => omega
                                    case rel => exact ⟨k + 1, rfl, by omega, by go_num, HK2, HU2, hW13⟩
                                  | true =>
                                    have HF := hideT' (NO.out (by rw [HND3.out, ho]; rfl))
                                    clear ho
                                    go_wp2
                                    go_ret
                                    exact ⟨by rw [HF.out]; rfl, hW13⟩
                                · have HF := hideT' (NO.out (by rw [HND2.out, g1, decide_eq_false (by omega)]; rfl))
                                  subst hv
                                  clear g1 e1 e2 OC
                                  go_wp2
                                  go_ret
                                  exact ⟨by rw [HF.out]; rfl, hW13⟩
                            · have f1 : (q == 1) = false := beq_eq_false_iff_ne.2 h1
                              have f2 : (q == 2) = false := beq_eq_false_iff_ne.2 h2
                              have f3 : (q == 3) = false := beq_eq_false_iff_ne.2 h3
                              have f4 : (q == 4) = false := beq_eq_false_iff_ne.2 h4
                              have f5 : (q == 5) = false := beq_eq_false_iff_ne.2 h5
                              have f6 : (q == 6) = false := beq_eq_false_iff_ne.2 h6
                              have HF := hideT' (NO.out (by rw [HND.out, txt_else h1 h2 h3 h4]; unfold isL; rw [decide_eq_false h5, decide_eq_false h6]; rfl))
                              clear h1 h2 h3 h4 h5 h6
                              go_wp2
                              go_ret
                              exact ⟨by rw [HF.out]; rfl, hW1⟩
                · have HF := hideT' (NO.out (by rw [HND.out, decide_eq_false hc, Bool.and_false]; rfl))
                  by_cases h1 : q = 1
                  · subst h1
                    go_wp2
                    go_ret
                    exact ⟨by rw [HF.out]; rfl, hW1⟩
                  · by_cases h2 : q = 2
                    · subst h2
                      go_wp2
                      go_ret
                      exact ⟨by rw [HF.out]; rfl, hW1⟩
                    · by_cases h3 : q = 3
                      · subst h3
                        go_wp2
                        go_ret
                        exact ⟨by rw [HF.out]; rfl, hW1⟩
                      · by_cases h4 : q = 4
                        · subst h4
                          go_wp2
                          go_ret
                          exact ⟨by rw [HF.out]; rfl, hW1⟩
                        · by_cases h5 : q = 5
                          · subst h5
                            go_wp2
                            go_ret
                            exact ⟨by rw [HF.out]; rfl, hW1⟩
                          · by_cases h6 : q = 6
                            · subst h6
                              go_wp2_with fail
                              refine (l3Parts_any b l k _ _ rfl hk' hn3 hD1).mono ?_
                              rintro e w3 ⟨v, rfl, hown, hW3⟩
                              obtain ⟨o, cap, rfl⟩ := own_form8 hown
                              have hW13 := hW1.trans (hW3.mono hW1.size)
                              have c1' := dm_c1x (RowAt.below hN1 hW3 (by omega))
                              go_wp2
                              go_ret
                              exact ⟨by rw [HF.out]; rfl, hW13⟩
                            · have f1 : (q == 1) = false := beq_eq_false_iff_ne.2 h1
                              have f2 : (q == 2) = false := beq_eq_false_iff_ne.2 h2
                              have f3 : (q == 3) = false := beq_eq_false_iff_ne.2 h3
                              have f4 : (q == 4) = false := beq_eq_false_iff_ne.2 h4
                              have f5 : (q == 5) = false := beq_eq_false_iff_ne.2 h5
                              have f6 : (q == 6) = false := beq_eq_false_iff_ne.2 h6
                              clear h1 h2 h3 h4 h5 h6
                              go_wp2
                              go_ret
                              exact ⟨by rw [HF.out]; rfl, hW1⟩
      · have HG := hideT' (node_all hn3 (fun j hj => HK.out j (by omega)))
        go_wp2
        go_ret
        exact ⟨by rw [HG.out]; rfl, hW⟩
end Go.Proofs.YtmpghgaijphniaaGreatDoor
