/-
  What readNum of impl answers.
-/
import Derived.Test.YtcdidibphaemoaaReadTerms
namespace Go.Proofs.Ytcdidibphaemoaa
open Go.RowKit
set_option linter.unusedVariables false

/-- The goal is a list's walk, and nothing else. -/
theorem wpList_id {ops : Array Oper} {rest : List Oper} {o : Oper} {a : Act} {w : World} {Q : Exit → Act → World → Prop} (h : wpList Try.prog ops Q (o :: rest) a w) : wpList Try.prog ops Q (o :: rest) a w := h

set_option maxHeartbeats 6000000 in
set_option maxRecDepth 100000 in
theorem readNum_any (s : ByteArray) (w : World) (hs : s.size ≤ maxLen) :
    Calls Try.prog 10 #[.string s] w fun e w' => ReadN s.data.toList e ∧ Below w.heap.size w w' := by
  have hz := zero_nat.1
  have hz1 := zero_whole.1
  have hz2 := zero_num.1
  have A := NumAt.new w false 0 zP 0 zP
  have hB : Below w.heap.size w (w.alloc (.cells (numC false 0 zP 0 zP) 34)) := (Below.refl _ _).alloc (Nat.le_refl _) _
  have HE := hide (okN_eq s.data.toList)
  go_enter Try.func10, Try.ntmps10
  go_wp2_with fail
  refine (readTerms_any s _ hs).mono ?_
  rintro e w1 ⟨⟨g, k, j, p, q, rfl, hp, hq, hok⟩, hW1⟩
  have A1 : NumAt w1 w.heap.size false 0 zP 0 zP := RowAt.below A hW1 (by simp)
  have hB1 : Below w.heap.size w w1 := hB.trans (hW1.mono (by simp))
  have hs1 := hW1.size
  simp only [World.size_alloc] at hs1
  have F := NumAt.new w1 false 0 zP 0 zP
  have HOK := hide hok
  clear A hB hW1 hok
  have NO : Hid (okN s.data.toList = false → ReadN s.data.toList (.returned (.tuple #[.agg (numC false 0 zP 0 zP), .bool false]))) := fun h => ⟨false, 0, 0, zP, zP, by rw [h]; rfl, zP_len, zP_len, fun h' => by rw [h] at h'; cases h'⟩
  cases ht : okT s.data.toList with
  | false =>
    have HN : Hid (okN s.data.toList = false) := by unfold Hid; rw [HE.out, ht]; rfl
    clear ht
    go_wp2_with (refine store_num rfl (.tmp 4) (.tmp 9) rfl rfl w1.heap.size g k p j q rfl rfl false 0 zP 0 zP F zP_len zP_len hp hq ?_; intro w2 hN2 hg2 hs2; refine Hid.out ?_)
    have A2 : NumAt w2 w.heap.size false 0 zP 0 zP := (RowAt.old A1 (.cells (numC false 0 zP 0 zP) 34)).grown hg2 (by simp; omega)
    unfold Hid
    go_wp2_with (with_reducible refine wpList_id ?_; first | (refine build_num0 rfl rfl _ rfl ?_) | (refine store_num rfl (.tmp 2) (.tmp 28) rfl rfl w.heap.size false 0 zP 0 zP rfl rfl false 0 zP 0 zP A2 zP_len zP_len zP_len zP_len ?_; intro wf hNf hgf hsf))
    refine bodyPost_ret (v := .tuple #[.agg (numC false 0 zP 0 zP), .bool false]) (res_num_tmp Try.results10 _ _ w.heap.size _ _ _ _ _ _ rfl rfl hNf zP_len zP_len) rfl ⟨NO.out HN.out, ?_⟩
    exact ((hB1.alloc (by omega) _).grown hg2 (by simp; omega) (by intro k hk; cases hk; omega)).grown hgf (by rw [hs2]; simp; omega) (by intro k hk; cases hk; omega)
  | true =>
    obtain ⟨hg, ra, rb, hk, hj, hj0⟩ := HOK.out ht
    have HT := hide ht
    have RA := hide (And.intro ra rb)
    have HG := hide hg
    clear ra rb ht HOK hg
    go_wp2_with (refine store_num rfl (.tmp 4) (.tmp 9) rfl rfl w1.heap.size g k p j q rfl rfl false 0 zP 0 zP F zP_len zP_len hp hq ?_; intro w2 hN2 hg2 hs2; refine Hid.out ?_)
    unfold Hid
    go_wp2_with (with_reducible refine wpList_id ?_; first | (refine load_num_w rfl _ rfl w1.heap.size rfl g k p j q hN2 hp hq ?_))
    have A2 : NumAt w2 w.heap.size false 0 zP 0 zP := (RowAt.old A1 (.cells (numC false 0 zP 0 zP) 34)).grown hg2 (by simp; omega)
    have hB2 : Below w.heap.size w w2 := (hB1.alloc (by omega) _).grown hg2 (by simp; omega) (by intro k hk; cases hk; omega)
    have hs2' : w2.heap.size = w1.heap.size + 1 := by rw [hs2]; simp
    clear A1 hB1 F hg2 hs2
    refine (isWhole_any (n := 0) g _ hp RA.out.2).mono ?_
    rintro e w3 ⟨rfl, hW3⟩
    have hs3 := hW3.size
    have A3 : NumAt w3 w.heap.size false 0 zP 0 zP := RowAt.below A2 hW3 (by omega)
    have M3 : NumAt w3 w1.heap.size g k p j q := RowAt.below hN2 hW3 (by omega)
    have hB3 : Below w.heap.size w w3 := hB2.trans (hW3.mono (by omega))
    clear A2 hN2 hB2 hW3
    by_cases hu1 : botN s.data.toList = 1
    · have HN : Hid (okN s.data.toList = true) := by unfold Hid; rw [HE.out, HT.out, decide_eq_true hu1]; rfl
      have HRD : Hid (ReadN s.data.toList (.returned (.tuple #[.agg (numC g k p j q), .bool true]))) := ⟨g, k, j, p, q, by rw [HN.out], hp, hq, fun _ => ⟨HG.out, RA.out.1, RA.out.2, hk, hj, hj0⟩⟩
      rw [decide_eq_true hu1]
      clear hu1
      go_wp2_with (with_reducible refine wpList_id ?_; first | (refine load_num rfl _ rfl w1.heap.size rfl g k p j q M3 hp hq ?_) | (refine store_num rfl _ _ rfl rfl w.heap.size g k p j q rfl rfl false 0 zP 0 zP A3 zP_len zP_len hp hq ?_; intro wf hNf hgf hsf))
      refine bodyPost_ret (v := .tuple #[.agg (numC g k p j q), .bool true]) (res_num_tmp Try.results10 _ _ w.heap.size _ _ _ _ _ _ rfl rfl hNf hp hq) rfl ⟨HRD.out, ?_⟩
      exact hB3.grown hgf (by have := hB3.size; omega) (by intro k hk; cases hk; omega)
    · rw [decide_eq_false hu1]
      have HU1 := hide hu1
      clear hu1
      go_wp2_with (with_reducible refine wpList_id ?_; first | (refine load_mid_w rfl _ rfl w1.heap.size 1 rfl k p M3.size hp ?_) | (refine load_mid_w rfl _ rfl w1.heap.size 206 rfl j q (M3.bottom hp) hq ?_))
      refine (gcd_any _ RA.out.1 RA.out.2 (by omega) (by omega)).mono ?_
      rintro e w4 ⟨c, cc, rfl, hRc, hW4⟩
      have hs4 := hW4.size
      have A4 : NumAt w4 w.heap.size false 0 zP 0 zP := RowAt.below A3 hW4 (by omega)
      have M4 : NumAt w4 w1.heap.size g k p j q := RowAt.below M3 hW4 (by omega)
      have hB4 : Below w.heap.size w w4 := hB3.trans (hW4.mono (by omega))
      have HRc := hide hRc
      clear A3 M3 hB3 hW4 hRc
      go_wp2_with fail
      refine (isOne_any _ HRc.out).mono ?_
      rintro e w5 ⟨rfl, hW5⟩
      have A5 : NumAt w5 w.heap.size false 0 zP 0 zP := RowAt.below A4 hW5 (by omega)
      have M5 : NumAt w5 w1.heap.size g k p j q := RowAt.below M4 hW5 (by omega)
      have hB5 : Below w.heap.size w w5 := hB4.trans (hW5.mono (by omega))
      clear A4 M4 hB4 hW5
      by_cases hg1 : Nat.gcd (topN s.data.toList) (botN s.data.toList) = 1
      · rw [decide_eq_true hg1]
        have HN : Hid (okN s.data.toList = true) := by unfold Hid; rw [HE.out, HT.out, decide_eq_true hg1]; simp
        have HRD : Hid (ReadN s.data.toList (.returned (.tuple #[.agg (numC g k p j q), .bool true]))) := ⟨g, k, j, p, q, by rw [HN.out], hp, hq, fun _ => ⟨HG.out, RA.out.1, RA.out.2, hk, hj, hj0⟩⟩
        clear hg1
        go_wp2_with (with_reducible refine wpList_id ?_; first | (refine load_num rfl _ rfl w1.heap.size rfl g k p j q M5 hp hq ?_) | (refine store_num rfl _ _ rfl rfl w.heap.size g k p j q rfl rfl false 0 zP 0 zP A5 zP_len zP_len hp hq ?_; intro wf hNf hgf hsf))
        refine bodyPost_ret (v := .tuple #[.agg (numC g k p j q), .bool true]) (res_num_tmp Try.results10 _ _ w.heap.size _ _ _ _ _ _ rfl rfl hNf hp hq) rfl ⟨HRD.out, ?_⟩
        exact hB5.grown hgf (by have := hB5.size; omega) (by intro k hk; cases hk; omega)
      · rw [decide_eq_false hg1]
        have HN : Hid (okN s.data.toList = false) := by unfold Hid; rw [HE.out, HT.out, decide_eq_false hg1, decide_eq_false HU1.out]; rfl
        clear hg1
        go_wp2_with (with_reducible refine wpList_id ?_; first | (refine build_num0 rfl rfl _ rfl ?_) | (refine store_num rfl (.tmp 2) (.tmp 28) rfl rfl w.heap.size false 0 zP 0 zP rfl rfl false 0 zP 0 zP A5 zP_len zP_len zP_len zP_len ?_; intro wf hNf hgf hsf))
        refine bodyPost_ret (v := .tuple #[.agg (numC false 0 zP 0 zP), .bool false]) (res_num_tmp Try.results10 _ _ w.heap.size _ _ _ _ _ _ rfl rfl hNf zP_len zP_len) rfl ⟨NO.out HN.out, ?_⟩
        exact hB5.grown hgf (by have := hB5.size; omega) (by intro k hk; cases hk; omega)
end Go.Proofs.Ytcdidibphaemoaa
