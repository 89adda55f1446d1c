/-
  What readNum of impl answers.
-/
import Derived.Test.YteihephciiifbaaReadNumA
namespace Go.Proofs.Yteihephciiifbaa
open Go.RowKit
set_option linter.unusedVariables false

theorem one_lt' (k : Nat) (hk : k ≠ 0) : 1 < 10 ^ k := Nat.one_lt_pow hk (by decide)
theorem good_lt' {l : List UInt8} (h : goodB l = true) : dval l < 10 ^ 600 := (canon_len_le (good_canon h) 600 (by omega)).1 (good_len h)

set_option maxHeartbeats 6000000 in
set_option maxRecDepth 100000 in
theorem readNum_any (s : ByteArray) (w : World) (hs : s.size ≤ maxLen) :
    Calls Try.prog 10 #[.string s] w fun e w' => ReadN s.data.toList e ∧ Below w.heap.size w w' := by
  have hz := zero_nat.1
  have hz1 := zero_whole.1
  have hz2 := zero_num.1
  have A := NumAt.new w false 0 zP 0 zP
  have hB : Below w.heap.size w (w.alloc (.cells (numC false 0 zP 0 zP) 34)) := (Below.refl _ _).alloc (Nat.le_refl _) _
  go_enter Try.func10, Try.ntmps10
  go_wp2_with fail
  refine (cutPrefix_any s _ hs).mono ?_
  rintro e w1 ⟨t, rfl, ht, rfl⟩
  have hts : t.size ≤ maxLen := by
    have h1 : t.data.toList.length = t.size := by simp
    have h2 : s.data.toList.length = s.size := by simp
    have : (bodyN s.data.toList).length ≤ s.data.toList.length := by unfold bodyN; split <;> simp
    rw [← ht] at this; omega
  have HTT := hide ht
  clear ht
  go_wp2_with fail
  refine (cut_any t _ hts).mono ?_
  rintro e w2 ⟨o, u, rfl, ho, hu, hW2⟩
  rw [HTT.out] at ho hu ⊢
  have hcs := cut_size (bodyN s.data.toList)
  have hos : o.size ≤ maxLen := by
    have h1 : o.data.toList.length = o.size := by simp
    have h2 : t.data.toList.length = t.size := by simp
    rw [HTT.out] at h2
    rw [ho] at h1; omega
  have hus : u.size ≤ maxLen := by
    have h1 : u.data.toList.length = u.size := by simp
    have h2 : t.data.toList.length = t.size := by simp
    rw [HTT.out] at h2
    rw [hu] at h1; omega
  have HO : Hid (o.data.toList = overN s.data.toList ∧ u.data.toList = underN s.data.toList) := ⟨ho, hu⟩
  obtain ⟨bk, hbk⟩ : ∃ bk, bk = (cut47 (bodyN s.data.toList)).2.2 := ⟨_, rfl⟩
  rw [← hbk]
  have HBK : Hid (bk = brokenN s.data.toList) := hbk
  obtain ⟨ng, hng⟩ : ∃ ng, ng = negN s.data.toList := ⟨_, rfl⟩
  rw [← hng]
  have HNG := hide hng
  have A2 : NumAt w2 w.heap.size false 0 zP 0 zP := A.below hW2 (by simp)
  have hB2 : Below w.heap.size w w2 := hB.trans (hW2.mono (by simp))
  have hs2 := hW2.size
  simp only [World.size_alloc] at hs2
  clear ho hu hcs hbk hng A hB hW2 HTT
  go_wp2_with fail
  refine (readNat_any o _ hos).mono ?_
  rintro e w3 ⟨k, p, oa, rfl, hRa, hW3⟩
  have hp := hRa.len
  have hs3 := hW3.size
  have A3 : NumAt w3 w.heap.size false 0 zP 0 zP := A2.below hW3 (by omega)
  have hB3 : Below w.heap.size w w3 := hB2.trans (hW3.mono (by omega))
  have F := NatAt.new w3 0 zP
  clear A2 hB2 hW3
  -- no number
  have NO : Hid (okN s.data.toList = false → ReadN s.data.toList (.returned (.tuple #[.agg (numC false 0 zP 0 zP), .bool false]))) := fun h => ⟨false, 0, 0, zP, zP, by rw [h]; rfl, zP_len, zP_len, fun h' => by rw [h] at h'; cases h'⟩
  have hok : oa = goodB (overN s.data.toList) := by rw [← HO.out.1]; exact hRa.ok
  cases hg : oa with
  | false =>
    subst hg
    have HN : Hid (okN s.data.toList = false) := by unfold Hid okN; rw [← hok]; rfl
    clear hok hRa
    go_wp2_with (first | (refine store_nat rfl _ _ rfl rfl w3.heap.size k p rfl rfl 0 zP F zP_len hp ?_; intro w4 hN4 hg4 hs4; have c0 := hN4.c0; have A4 : NumAt w4 w.heap.size false 0 zP 0 zP := (RowAt.old A3 (.cells (natC 0 zP) 30)).grown hg4 (by first | (simp; done) | (simp; omega))) | (refine build_num0 rfl rfl _ rfl ?_) | (refine store_num rfl _ _ rfl rfl w.heap.size false 0 zP 0 zP rfl rfl false 0 zP 0 zP A4 zP_len zP_len zP_len zP_len ?_; intro w5 hN5 hg5 hs5))
    refine bodyPost_ret (v := .tuple #[.agg (numC false 0 zP 0 zP), .bool false]) (res_num_tmp Try.results10 _ _ w.heap.size _ _ _ _ _ _ rfl rfl hN5 zP_len zP_len) rfl ⟨NO.out HN.out, ?_⟩
    exact ((hB3.alloc (by omega) _).grown hg4 (by first | (simp; done) | (simp; omega)) (by intro k hk; cases hk; omega)).grown hg5 (by rw [hs4]; simp; omega) (by intro k hk; cases hk; omega)
  | true =>
    subst hg
    have hgo : goodB o.data.toList = true := by rw [HO.out.1]; exact hok.symm
    have ra : Rep (topN s.data.toList) k p := by unfold topN; rw [← HO.out.1]; exact hRa.rep hgo
    have hk : k ≤ 100 := by
      have h1 : topN s.data.toList < 10 ^ 600 := by unfold topN; rw [← HO.out.1]; exact good_lt' hgo
      exact ra.fits.2 h1
    have RA := hide ra
    have HGO : Hid (goodB (overN s.data.toList) = true) := hok.symm
    clear hok hRa hgo ra
    by_cases hbad : ng = true ∧ k = 0
    · have HN : Hid (okN s.data.toList = false) := by
        unfold Hid okN
        have h0 : dval (overN s.data.toList) = 0 := RA.out.zero_iff.1 hbad.2
        rw [HGO.out, ← HNG.out, hbad.1, h0]; rfl
      obtain ⟨h1, h2⟩ := hbad
      have h2' : ((k : Int) == 0) = true := by simp [h2]
      subst h1
      clear h2
      go_wp2_with (first | (refine store_nat rfl _ _ rfl rfl w3.heap.size k p rfl rfl 0 zP F zP_len hp ?_; intro w4 hN4 hg4 hs4; have c0 := hN4.c0; have A4 : NumAt w4 w.heap.size false 0 zP 0 zP := (RowAt.old A3 (.cells (natC 0 zP) 30)).grown hg4 (by first | (simp; done) | (simp; omega))) | (refine build_num0 rfl rfl _ rfl ?_) | (refine store_num rfl _ _ rfl rfl w.heap.size false 0 zP 0 zP rfl rfl false 0 zP 0 zP A4 zP_len zP_len zP_len zP_len ?_; intro w5 hN5 hg5 hs5))
      refine bodyPost_ret (v := .tuple #[.agg (numC false 0 zP 0 zP), .bool false]) (res_num_tmp Try.results10 _ _ w.heap.size _ _ _ _ _ _ rfl rfl hN5 zP_len zP_len) rfl ⟨NO.out HN.out, ?_⟩
      exact ((hB3.alloc (by omega) _).grown hg4 (by first | (simp; done) | (simp; omega)) (by intro k hk; cases hk; omega)).grown hg5 (by rw [hs4]; simp; omega) (by intro k hk; cases hk; omega)
    · have HSG : Hid ((goodB (overN s.data.toList) && !(negN s.data.toList && decide (dval (overN s.data.toList) = 0))) = true) := by
        unfold Hid
        rw [HGO.out, ← HNG.out]
        cases ng with
        | false => rfl
        | true =>
          have : dval (overN s.data.toList) ≠ 0 := fun e => hbad ⟨rfl, RA.out.zero_iff.2 e⟩
          simp [this]
      have hbad' : ng = false ∨ ((k : Int) == 0) = false := by
        cases ng with
        | false => exact .inl rfl
        | true => right; rw [beq_eq_false_iff_ne]; intro e; exact hbad ⟨rfl, by omega⟩
      clear hbad
      cases ng with
      | false =>
        clear hbad'
        go_wp2_with (refine store_nat rfl _ _ rfl rfl w3.heap.size k p rfl rfl 0 zP F zP_len hp ?_; intro w4 hN4 hg4 hs4; have c0 := hN4.c0)
        have hs4' : w4.heap.size = w3.heap.size + 1 := by rw [hs4]; simp
        have A4 : NumAt w4 w.heap.size false 0 zP 0 zP := (RowAt.old A3 (.cells (natC 0 zP) 30)).grown hg4 (by first | (simp; done) | (simp; omega))
        have hB4 : Below w.heap.size w w4 := (hB3.alloc (by omega) _).grown hg4 (by first | (simp; done) | (simp; omega)) (by intro k hk; cases hk; omega)
        clear A3 hB3 F hg4 hs4 c0
        refine region_make "l2_num.go:155" false k p hp w3.heap.size w.heap.size rfl rfl (by simp) hz2 hN4 A4 ?_
        intro b0 i r w7 hN7 N7 A7 hR hb0 hlt7 hW7
        have hr := hR.len
        have hB7 : Below w.heap.size w w7 := hB4.trans (hW7.mono hB4.size)
        have hb3 : w3.heap.size < b0 := by omega
        clear hN4 A4 hB4 hW7
        simp only [Act.put, List.setIfInBounds_toArray, List.set_cons_zero, List.set_cons_succ]
        have hi := (hR.fits.2 (one_lt' 600 (by decide)))
        have hi0 : i ≠ 0 := fun e => by have := hR.zero_iff.1 e; omega
        have HR1 := hide hR
        clear hR
        cases bk with
        | false =>
          have HN : Hid (okN s.data.toList = true) := by unfold Hid okN; rw [HSG.out, ← HBK.out]; rfl
          have HRD : Hid (ReadN s.data.toList (.returned (.tuple #[.agg (numC false k p i r), .bool true]))) := ⟨false, k, i, p, r, by rw [HN.out], hp, hr, fun _ => ⟨HNG.out, RA.out, by unfold botN; rw [← HBK.out]; exact HR1.out, hk, hi, hi0⟩⟩
          go_wp2_with (first | (refine load_num rfl _ rfl b0 rfl false k p i r hN7 hp hr ?_) | (refine store_num rfl _ _ rfl rfl w.heap.size false k p i r rfl rfl false 0 zP 0 zP A7 zP_len zP_len hp hr ?_; intro w8 hN8 hg8 hs8))
          refine bodyPost_ret (v := .tuple #[.agg (numC false k p i r), .bool true]) (res_num_tmp Try.results10 _ _ w.heap.size _ _ _ _ _ _ rfl rfl hN8 hp hr) rfl ⟨HRD.out, ?_⟩
          exact hB7.grown hg8 (by have := hB7.size; omega) (by intro k hk; cases hk; omega)
        | true =>
          go_wp2_with fail
          refine (readNat_any u _ hus).mono ?_
          rintro e w8 ⟨m, q, ob, rfl, hRb, hW8⟩
          have hq := hRb.len
          have hs8 := hW8.size
          have A8 : NumAt w8 w.heap.size false 0 zP 0 zP := A7.below hW8 (by omega)
          have N8 : NatAt w8 w3.heap.size k p := N7.below hW8 (by omega)
          have M8 : NumAt w8 b0 false k p i r := hN7.below hW8 hlt7
          have hB8 : Below w.heap.size w w8 := hB7.trans (hW8.mono hB7.size)
          clear A7 N7 hN7 hB7 hW8
          have hokb : ob = goodB (underN s.data.toList) := by rw [← HO.out.2]; exact hRb.ok
          cases hob : ob with
          | false =>
            subst hob
            have HN : Hid (okN s.data.toList = false) := by unfold Hid okN; rw [← HBK.out, ← hokb, HSG.out]; rfl
            clear hokb hRb
            go_wp2_with (first | (refine store_bottom rfl _ _ rfl rfl b0 m q rfl rfl false k p i r M8 hp hr hq ?_; intro w9 M9 hg9 hs9; have A9 : NumAt w9 w.heap.size false 0 zP 0 zP := RowAt.grown A8 hg9 (by simp; omega)) | (refine build_num0 rfl rfl _ rfl ?_) | (refine store_num rfl _ _ rfl rfl w.heap.size false 0 zP 0 zP rfl rfl false 0 zP 0 zP A9 zP_len zP_len zP_len zP_len ?_; intro wf hNf hgf hsf))
            refine bodyPost_ret (v := .tuple #[.agg (numC false 0 zP 0 zP), .bool false]) (res_num_tmp Try.results10 _ _ w.heap.size _ _ _ _ _ _ rfl rfl hNf zP_len zP_len) rfl ⟨NO.out HN.out, ?_⟩
            exact (hB8.grown hg9 (by have := hB8.size; omega) (by intro k hk; cases hk; omega)).grown hgf (by have := hB8.size; omega) (by intro k hk; cases hk; omega)
          | true =>
            subst hob
            have hgu : goodB u.data.toList = true := by rw [HO.out.2]; exact hokb.symm
            have rb : Rep (dval (underN s.data.toList)) m q := by rw [← HO.out.2]; exact hRb.rep hgu
            have hm : m ≤ 100 := by
              have h1 : dval (underN s.data.toList) < 10 ^ 600 := by rw [← HO.out.2]; exact good_lt' hgu
              exact rb.fits.2 h1
            have RB := hide rb
            have HGU : Hid (goodB (underN s.data.toList) = true) := hokb.symm
            clear hokb hRb hgu rb
            by_cases hm0 : m = 0
            · have HN : Hid (okN s.data.toList = false) := by
                unfold Hid okN; rw [← HBK.out, HGU.out, HSG.out, RB.out.zero_iff.1 hm0]; rfl
              have hm0' : ((m : Int) == 0) = true := by simp [hm0]
              clear hm0
              go_wp2_with (first | (refine store_bottom rfl _ _ rfl rfl b0 m q rfl rfl false k p i r M8 hp hr hq ?_; intro w9 M9 hg9 hs9; have A9 : NumAt w9 w.heap.size false 0 zP 0 zP := RowAt.grown A8 hg9 (by simp; omega); have c206 := M9.bused hp) | (refine build_num0 rfl rfl _ rfl ?_) | (refine store_num rfl _ _ rfl rfl w.heap.size false 0 zP 0 zP rfl rfl false 0 zP 0 zP A9 zP_len zP_len zP_len zP_len ?_; intro wf hNf hgf hsf))
              refine bodyPost_ret (v := .tuple #[.agg (numC false 0 zP 0 zP), .bool false]) (res_num_tmp Try.results10 _ _ w.heap.size _ _ _ _ _ _ rfl rfl hNf zP_len zP_len) rfl ⟨NO.out HN.out, ?_⟩
              exact (hB8.grown hg9 (by have := hB8.size; omega) (by intro k hk; cases hk; omega)).grown hgf (by have := hB8.size; omega) (by intro k hk; cases hk; omega)
            · have hm0' : ((m : Int) == 0) = false := by rw [beq_eq_false_iff_ne]; omega
              have HU0 : Hid (dval (underN s.data.toList) ≠ 0) := fun e => hm0 (RB.out.zero_iff.2 e)
              go_wp2_with (first | (refine store_bottom rfl _ _ rfl rfl b0 m q rfl rfl false k p i r M8 hp hr hq ?_; intro w9 M9 hg9 hs9; have c206 := M9.bused hp) | (refine load_num_w rfl _ rfl b0 rfl false k p m q M9 hp hq ?_))
              have A9 : NumAt w9 w.heap.size false 0 zP 0 zP := RowAt.grown A8 hg9 (by simp; omega)
              have N9 : NatAt w9 w3.heap.size k p := N8.grown hg9 (by simp; omega)
              have hB9 : Below w.heap.size w w9 := hB8.grown hg9 (by have := hB8.size; omega) (by intro k hk; cases hk; omega)
              have hlt9 := M9.lt
              have hltA := A9.lt
              have hltN := N9.lt
              clear A8 N8 M8 hB8 hg9 c206
              refine (isWhole_any (n := 0) false _ hp RB.out).mono ?_
              rintro e w10 ⟨rfl, hW10⟩
              have hs10 := hW10.size
              have A10 : NumAt w10 w.heap.size false 0 zP 0 zP := RowAt.below A9 hW10 hltA
              have N10 : NatAt w10 w3.heap.size k p := N9.below hW10 hltN
              have M10 : NumAt w10 b0 false k p m q := RowAt.below M9 hW10 hlt9
              have hB10 : Below w.heap.size w w10 := hB9.trans (hW10.mono hB9.size)
              clear A9 N9 M9 hB9 hW10
              by_cases hu1 : dval (underN s.data.toList) = 1
              · have HN : Hid (okN s.data.toList = false) := by
                  unfold Hid okN; rw [← HBK.out, HGU.out, HSG.out, hu1]; rfl
                rw [decide_eq_true hu1]
                clear hu1
                go_wp2_with (first | (refine build_num0 rfl rfl _ rfl ?_) | (refine store_num rfl _ _ rfl rfl w.heap.size false 0 zP 0 zP rfl rfl false 0 zP 0 zP A10 zP_len zP_len zP_len zP_len ?_; intro wf hNf hgf hsf))
                refine bodyPost_ret (v := .tuple #[.agg (numC false 0 zP 0 zP), .bool false]) (res_num_tmp Try.results10 _ _ w.heap.size _ _ _ _ _ _ rfl rfl hNf zP_len zP_len) rfl ⟨NO.out HN.out, ?_⟩
                exact hB10.grown hgf (by have := hB10.size; omega) (by intro k hk; cases hk; omega)
              · rw [decide_eq_false hu1]
                have HU1 := hide hu1
                clear hu1
                go_wp2_with (first | (refine load_nat_w rfl _ rfl w3.heap.size rfl k p N10 hp ?_) | (refine load_mid_w rfl _ rfl b0 206 rfl m q (M10.bottom hp) hq ?_))
                refine (gcd_any _ RA.out RB.out (by omega) (by omega)).mono ?_
                rintro e w11 ⟨c, cc, rfl, hRc, hW11⟩
                have hs11 := hW11.size
                have A11 : NumAt w11 w.heap.size false 0 zP 0 zP := RowAt.below A10 hW11 (by omega)
                have M11 : NumAt w11 b0 false k p m q := RowAt.below M10 hW11 (by omega)
                have hB11 : Below w.heap.size w w11 := hB10.trans (hW11.mono hB10.size)
                have HRc := hide hRc
                clear A10 N10 M10 hB10 hW11 hRc
                go_wp2_with fail
                refine (isOne_any _ HRc.out).mono ?_
                rintro e w12 ⟨rfl, hW12⟩
                have A12 : NumAt w12 w.heap.size false 0 zP 0 zP := RowAt.below A11 hW12 (by omega)
                have M12 : NumAt w12 b0 false k p m q := RowAt.below M11 hW12 (by omega)
                have hB12 : Below w.heap.size w w12 := hB11.trans (hW12.mono hB11.size)
                clear A11 M11 hB11 hW12
                by_cases hg1 : Nat.gcd (topN s.data.toList) (dval (underN s.data.toList)) = 1
                · rw [decide_eq_true hg1]
                  have HN : Hid (okN s.data.toList = true) := by
                    unfold Hid okN
                    rw [← HBK.out, HGU.out, HSG.out, decide_eq_true HU0.out, decide_eq_true HU1.out, decide_eq_true (show Nat.gcd (dval (overN s.data.toList)) (dval (underN s.data.toList)) = 1 from hg1)]; rfl
                  have HRD : Hid (ReadN s.data.toList (.returned (.tuple #[.agg (numC false k p m q), .bool true]))) := ⟨false, k, m, p, q, by rw [HN.out], hp, hq, fun _ => ⟨HNG.out, RA.out, by unfold botN; rw [← HBK.out]; exact RB.out, hk, hm, hm0⟩⟩
                  clear hg1
                  go_wp2_with (first | (refine load_num rfl _ rfl b0 rfl false k p m q M12 hp hq ?_) | (refine store_num rfl _ _ rfl rfl w.heap.size false k p m q rfl rfl false 0 zP 0 zP A12 zP_len zP_len hp hq ?_; intro wf hNf hgf hsf))
                  refine bodyPost_ret (v := .tuple #[.agg (numC false k p m q), .bool true]) (res_num_tmp Try.results10 _ _ w.heap.size _ _ _ _ _ _ rfl rfl hNf hp hq) rfl ⟨HRD.out, ?_⟩
                  exact hB12.grown hgf (by have := hB12.size; omega) (by intro k hk; cases hk; omega)
                · rw [decide_eq_false hg1]
                  have HN : Hid (okN s.data.toList = false) := by
                    unfold Hid okN
                    rw [← HBK.out, HGU.out, HSG.out, decide_eq_false (show ¬ Nat.gcd (dval (overN s.data.toList)) (dval (underN s.data.toList)) = 1 from hg1)]; simp
                  clear hg1
                  go_wp2_with (first | (refine build_num0 rfl rfl _ rfl ?_) | (refine store_num rfl _ _ rfl rfl w.heap.size false 0 zP 0 zP rfl rfl false 0 zP 0 zP A12 zP_len zP_len zP_len zP_len ?_; intro wf hNf hgf hsf))
                  refine bodyPost_ret (v := .tuple #[.agg (numC false 0 zP 0 zP), .bool false]) (res_num_tmp Try.results10 _ _ w.heap.size _ _ _ _ _ _ rfl rfl hNf zP_len zP_len) rfl ⟨NO.out HN.out, ?_⟩
                  exact hB12.grown hgf (by have := hB12.size; omega) (by intro k hk; cases hk; omega)
      | true =>
        have hb1 : ((k : Int) == 0) = false := hbad'.resolve_left (by decide)
        clear hbad'
        go_wp2_with (refine store_nat rfl _ _ rfl rfl w3.heap.size k p rfl rfl 0 zP F zP_len hp ?_; intro w4 hN4 hg4 hs4; have c0 := hN4.c0)
        have hs4' : w4.heap.size = w3.heap.size + 1 := by rw [hs4]; simp
        have A4 : NumAt w4 w.heap.size false 0 zP 0 zP := (RowAt.old A3 (.cells (natC 0 zP) 30)).grown hg4 (by first | (simp; done) | (simp; omega))
        have hB4 : Below w.heap.size w w4 := (hB3.alloc (by omega) _).grown hg4 (by first | (simp; done) | (simp; omega)) (by intro k hk; cases hk; omega)
        clear A3 hB3 F hg4 hs4 c0
        refine region_make "l2_num.go:155" true k p hp w3.heap.size w.heap.size rfl rfl (by simp) hz2 hN4 A4 ?_
        intro b0 i r w7 hN7 N7 A7 hR hb0 hlt7 hW7
        have hr := hR.len
        have hB7 : Below w.heap.size w w7 := hB4.trans (hW7.mono hB4.size)
        have hb3 : w3.heap.size < b0 := by omega
        clear hN4 A4 hB4 hW7
        simp only [Act.put, List.setIfInBounds_toArray, List.set_cons_zero, List.set_cons_succ]
        have hi := (hR.fits.2 (one_lt' 600 (by decide)))
        have hi0 : i ≠ 0 := fun e => by have := hR.zero_iff.1 e; omega
        have HR1 := hide hR
        clear hR
        cases bk with
        | false =>
          have HN : Hid (okN s.data.toList = true) := by unfold Hid okN; rw [HSG.out, ← HBK.out]; rfl
          have HRD : Hid (ReadN s.data.toList (.returned (.tuple #[.agg (numC true k p i r), .bool true]))) := ⟨true, k, i, p, r, by rw [HN.out], hp, hr, fun _ => ⟨HNG.out, RA.out, by unfold botN; rw [← HBK.out]; exact HR1.out, hk, hi, hi0⟩⟩
          go_wp2_with (first | (refine load_num rfl _ rfl b0 rfl true k p i r hN7 hp hr ?_) | (refine store_num rfl _ _ rfl rfl w.heap.size true k p i r rfl rfl false 0 zP 0 zP A7 zP_len zP_len hp hr ?_; intro w8 hN8 hg8 hs8))
          refine bodyPost_ret (v := .tuple #[.agg (numC true k p i r), .bool true]) (res_num_tmp Try.results10 _ _ w.heap.size _ _ _ _ _ _ rfl rfl hN8 hp hr) rfl ⟨HRD.out, ?_⟩
          exact hB7.grown hg8 (by have := hB7.size; omega) (by intro k hk; cases hk; omega)
        | true =>
          go_wp2_with fail
          refine (readNat_any u _ hus).mono ?_
          rintro e w8 ⟨m, q, ob, rfl, hRb, hW8⟩
          have hq := hRb.len
          have hs8 := hW8.size
          have A8 : NumAt w8 w.heap.size false 0 zP 0 zP := A7.below hW8 (by omega)
          have N8 : NatAt w8 w3.heap.size k p := N7.below hW8 (by omega)
          have M8 : NumAt w8 b0 true k p i r := hN7.below hW8 hlt7
          have hB8 : Below w.heap.size w w8 := hB7.trans (hW8.mono hB7.size)
          clear A7 N7 hN7 hB7 hW8
          have hokb : ob = goodB (underN s.data.toList) := by rw [← HO.out.2]; exact hRb.ok
          cases hob : ob with
          | false =>
            subst hob
            have HN : Hid (okN s.data.toList = false) := by unfold Hid okN; rw [← HBK.out, ← hokb, HSG.out]; rfl
            clear hokb hRb
            go_wp2_with (first | (refine store_bottom rfl _ _ rfl rfl b0 m q rfl rfl true k p i r M8 hp hr hq ?_; intro w9 M9 hg9 hs9; have A9 : NumAt w9 w.heap.size false 0 zP 0 zP := RowAt.grown A8 hg9 (by simp; omega)) | (refine build_num0 rfl rfl _ rfl ?_) | (refine store_num rfl _ _ rfl rfl w.heap.size false 0 zP 0 zP rfl rfl false 0 zP 0 zP A9 zP_len zP_len zP_len zP_len ?_; intro wf hNf hgf hsf))
            refine bodyPost_ret (v := .tuple #[.agg (numC false 0 zP 0 zP), .bool false]) (res_num_tmp Try.results10 _ _ w.heap.size _ _ _ _ _ _ rfl rfl hNf zP_len zP_len) rfl ⟨NO.out HN.out, ?_⟩
            exact (hB8.grown hg9 (by have := hB8.size; omega) (by intro k hk; cases hk; omega)).grown hgf (by have := hB8.size; omega) (by intro k hk; cases hk; omega)
          | true =>
            subst hob
            have hgu : goodB u.data.toList = true := by rw [HO.out.2]; exact hokb.symm
            have rb : Rep (dval (underN s.data.toList)) m q := by rw [← HO.out.2]; exact hRb.rep hgu
            have hm : m ≤ 100 := by
              have h1 : dval (underN s.data.toList) < 10 ^ 600 := by rw [← HO.out.2]; exact good_lt' hgu
              exact rb.fits.2 h1
            have RB := hide rb
            have HGU : Hid (goodB (underN s.data.toList) = true) := hokb.symm
            clear hokb hRb hgu rb
            by_cases hm0 : m = 0
            · have HN : Hid (okN s.data.toList = false) := by
                unfold Hid okN; rw [← HBK.out, HGU.out, HSG.out, RB.out.zero_iff.1 hm0]; rfl
              have hm0' : ((m : Int) == 0) = true := by simp [hm0]
              clear hm0
              go_wp2_with (first | (refine store_bottom rfl _ _ rfl rfl b0 m q rfl rfl true k p i r M8 hp hr hq ?_; intro w9 M9 hg9 hs9; have A9 : NumAt w9 w.heap.size false 0 zP 0 zP := RowAt.grown A8 hg9 (by simp; omega); have c206 := M9.bused hp) | (refine build_num0 rfl rfl _ rfl ?_) | (refine store_num rfl _ _ rfl rfl w.heap.size false 0 zP 0 zP rfl rfl false 0 zP 0 zP A9 zP_len zP_len zP_len zP_len ?_; intro wf hNf hgf hsf))
              refine bodyPost_ret (v := .tuple #[.agg (numC false 0 zP 0 zP), .bool false]) (res_num_tmp Try.results10 _ _ w.heap.size _ _ _ _ _ _ rfl rfl hNf zP_len zP_len) rfl ⟨NO.out HN.out, ?_⟩
              exact (hB8.grown hg9 (by have := hB8.size; omega) (by intro k hk; cases hk; omega)).grown hgf (by have := hB8.size; omega) (by intro k hk; cases hk; omega)
            · have hm0' : ((m : Int) == 0) = false := by rw [beq_eq_false_iff_ne]; omega
              have HU0 : Hid (dval (underN s.data.toList) ≠ 0) := fun e => hm0 (RB.out.zero_iff.2 e)
              go_wp2_with (first | (refine store_bottom rfl _ _ rfl rfl b0 m q rfl rfl true k p i r M8 hp hr hq ?_; intro w9 M9 hg9 hs9; have c206 := M9.bused hp) | (refine load_num_w rfl _ rfl b0 rfl true k p m q M9 hp hq ?_))
              have A9 : NumAt w9 w.heap.size false 0 zP 0 zP := RowAt.grown A8 hg9 (by simp; omega)
              have N9 : NatAt w9 w3.heap.size k p := N8.grown hg9 (by simp; omega)
              have hB9 : Below w.heap.size w w9 := hB8.grown hg9 (by have := hB8.size; omega) (by intro k hk; cases hk; omega)
              have hlt9 := M9.lt
              have hltA := A9.lt
              have hltN := N9.lt
              clear A8 N8 M8 hB8 hg9 c206
              refine (isWhole_any (n := 0) true _ hp RB.out).mono ?_
              rintro e w10 ⟨rfl, hW10⟩
              have hs10 := hW10.size
              have A10 : NumAt w10 w.heap.size false 0 zP 0 zP := RowAt.below A9 hW10 hltA
              have N10 : NatAt w10 w3.heap.size k p := N9.below hW10 hltN
              have M10 : NumAt w10 b0 true k p m q := RowAt.below M9 hW10 hlt9
              have hB10 : Below w.heap.size w w10 := hB9.trans (hW10.mono hB9.size)
              clear A9 N9 M9 hB9 hW10
              by_cases hu1 : dval (underN s.data.toList) = 1
              · have HN : Hid (okN s.data.toList = false) := by
                  unfold Hid okN; rw [← HBK.out, HGU.out, HSG.out, hu1]; rfl
                rw [decide_eq_true hu1]
                clear hu1
                go_wp2_with (first | (refine build_num0 rfl rfl _ rfl ?_) | (refine store_num rfl _ _ rfl rfl w.heap.size false 0 zP 0 zP rfl rfl false 0 zP 0 zP A10 zP_len zP_len zP_len zP_len ?_; intro wf hNf hgf hsf))
                refine bodyPost_ret (v := .tuple #[.agg (numC false 0 zP 0 zP), .bool false]) (res_num_tmp Try.results10 _ _ w.heap.size _ _ _ _ _ _ rfl rfl hNf zP_len zP_len) rfl ⟨NO.out HN.out, ?_⟩
                exact hB10.grown hgf (by have := hB10.size; omega) (by intro k hk; cases hk; omega)
              · rw [decide_eq_false hu1]
                have HU1 := hide hu1
                clear hu1
                go_wp2_with (first | (refine load_nat_w rfl _ rfl w3.heap.size rfl k p N10 hp ?_) | (refine load_mid_w rfl _ rfl b0 206 rfl m q (M10.bottom hp) hq ?_))
                refine (gcd_any _ RA.out RB.out (by omega) (by omega)).mono ?_
                rintro e w11 ⟨c, cc, rfl, hRc, hW11⟩
                have hs11 := hW11.size
                have A11 : NumAt w11 w.heap.size false 0 zP 0 zP := RowAt.below A10 hW11 (by omega)
                have M11 : NumAt w11 b0 true k p m q := RowAt.below M10 hW11 (by omega)
                have hB11 : Below w.heap.size w w11 := hB10.trans (hW11.mono hB10.size)
                have HRc := hide hRc
                clear A10 N10 M10 hB10 hW11 hRc
                go_wp2_with fail
                refine (isOne_any _ HRc.out).mono ?_
                rintro e w12 ⟨rfl, hW12⟩
                have A12 : NumAt w12 w.heap.size false 0 zP 0 zP := RowAt.below A11 hW12 (by omega)
                have M12 : NumAt w12 b0 true k p m q := RowAt.below M11 hW12 (by omega)
                have hB12 : Below w.heap.size w w12 := hB11.trans (hW12.mono hB11.size)
                clear A11 M11 hB11 hW12
                by_cases hg1 : Nat.gcd (topN s.data.toList) (dval (underN s.data.toList)) = 1
                · rw [decide_eq_true hg1]
                  have HN : Hid (okN s.data.toList = true) := by
                    unfold Hid okN
                    rw [← HBK.out, HGU.out, HSG.out, decide_eq_true HU0.out, decide_eq_true HU1.out, decide_eq_true (show Nat.gcd (dval (overN s.data.toList)) (dval (underN s.data.toList)) = 1 from hg1)]; rfl
                  have HRD : Hid (ReadN s.data.toList (.returned (.tuple #[.agg (numC true k p m q), .bool true]))) := ⟨true, k, m, p, q, by rw [HN.out], hp, hq, fun _ => ⟨HNG.out, RA.out, by unfold botN; rw [← HBK.out]; exact RB.out, hk, hm, hm0⟩⟩
                  clear hg1
                  go_wp2_with (first | (refine load_num rfl _ rfl b0 rfl true k p m q M12 hp hq ?_) | (refine store_num rfl _ _ rfl rfl w.heap.size true k p m q rfl rfl false 0 zP 0 zP A12 zP_len zP_len hp hq ?_; intro wf hNf hgf hsf))
                  refine bodyPost_ret (v := .tuple #[.agg (numC true k p m q), .bool true]) (res_num_tmp Try.results10 _ _ w.heap.size _ _ _ _ _ _ rfl rfl hNf hp hq) rfl ⟨HRD.out, ?_⟩
                  exact hB12.grown hgf (by have := hB12.size; omega) (by intro k hk; cases hk; omega)
                · rw [decide_eq_false hg1]
                  have HN : Hid (okN s.data.toList = false) := by
                    unfold Hid okN
                    rw [← HBK.out, HGU.out, HSG.out, decide_eq_false (show ¬ Nat.gcd (dval (overN s.data.toList)) (dval (underN s.data.toList)) = 1 from hg1)]; simp
                  clear hg1
                  go_wp2_with (first | (refine build_num0 rfl rfl _ rfl ?_) | (refine store_num rfl _ _ rfl rfl w.heap.size false 0 zP 0 zP rfl rfl false 0 zP 0 zP A12 zP_len zP_len zP_len zP_len ?_; intro wf hNf hgf hsf))
                  refine bodyPost_ret (v := .tuple #[.agg (numC false 0 zP 0 zP), .bool false]) (res_num_tmp Try.results10 _ _ w.heap.size _ _ _ _ _ _ rfl rfl hNf zP_len zP_len) rfl ⟨NO.out HN.out, ?_⟩
                  exact hB12.grown hgf (by have := hB12.size; omega) (by intro k hk; cases hk; omega)
end Go.Proofs.Yteihephciiifbaa
