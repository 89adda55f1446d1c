/-
  What impl.SubNum answers.
-/
import Derived.Test.YteihephciiifbaaDoorNumPlus
namespace Go.Proofs.YteihephciiifbaaDoor
open Go.RowKit
set_option linter.unusedVariables false

set_option maxHeartbeats 1000000 in
set_option maxRecDepth 100000 in
theorem implSubNum_any (a b : ByteArray) (w : World) (hsa : a.size ≤ maxLen) (hsb : b.size ≤ maxLen) (hT : Tab w.heap.size w) :
    Calls Tryd.prog 17 #[.string a, .string b] w fun e w' => AddNAns true a b e ∧ Below w.heap.size w w' := by
  have hz := zero_num.1
  have HT : Hid (Tab w.heap.size w) := hT
  clear hT
  go_enter Tryd.func17, Tryd.ntmps17
  go_wp2_with fail
  refine (readNums_any a b _ hsa hsb).mono ?_
  rintro e w1 ⟨g, g', k, j, k', j', p, q, p', q', rfl, ⟨hp, hq, hRa⟩, ⟨hp', hq', hRb⟩, hW1⟩
  have hs1 := hW1.size
  have A : NumAt ((w1.alloc (.cells (numC false 0 zP 0 zP) 42)).alloc (.cells (numC false 0 zP 0 zP) 42)) w1.heap.size false 0 zP 0 zP := RowAt.old (NumAt.new w1 false 0 zP 0 zP) _
  have B : NumAt ((w1.alloc (.cells (numC false 0 zP 0 zP) 42)).alloc (.cells (numC false 0 zP 0 zP) 42)) (w1.heap.size + 1) false 0 zP 0 zP := by
    have := NumAt.new (w1.alloc (.cells (numC false 0 zP 0 zP) 42)) false 0 zP 0 zP
    simp only [World.size_alloc] at this; exact this
  have hB : Below w.heap.size w ((w1.alloc (.cells (numC false 0 zP 0 zP) 42)).alloc (.cells (numC false 0 zP 0 zP) 42)) := (hW1.alloc (by omega) _).alloc (by simp; omega) _
  cases hok : (okN a.data.toList && okN b.data.toList) with
  | true =>
    obtain ⟨ha, hb⟩ : okN a.data.toList = true ∧ okN b.data.toList = true := by simpa using hok
    obtain ⟨hg, ra, rb, hk, hj, hj0⟩ := hRa ha
    obtain ⟨hg', ra', rb', hk', hj', hj0'⟩ := hRb hb
    have RA := hide (And.intro ra rb)
    have RB := hide (And.intro ra' rb')
    have HG := hide (And.intro hg hg')
    have HK := hide hok
    have H0 : Hid ((g = true → topN a.data.toList ≠ 0) ∧ botN a.data.toList ≠ 0 ∧ botN b.data.toList ≠ 0) := ⟨fun h => okN_neg' ha (by rw [← hg]; exact h), okN_bot' ha, okN_bot' hb⟩
    clear ha hb hg hg' ra rb ra' rb' hRa hRb hok
    go_wp2_with (first | (refine store_num rfl _ _ rfl rfl w1.heap.size g k p j q rfl rfl false 0 zP 0 zP A zP_len zP_len hp hq ?_; intro w2 hN2 hg2 hs2) | (refine store_num rfl _ _ rfl rfl (w1.heap.size + 1) g' k' p' j' q' rfl rfl false 0 zP 0 zP (RowAt.grown B hg2 (by simp)) zP_len zP_len hp' hq' ?_; intro w3 hN3 hg3 hs3))
    have hs3' : w3.heap.size = w1.heap.size + 1 + 1 := by rw [hs3, hs2]; simp
    have M4 : NumAt w3 w1.heap.size g k p j q := RowAt.grown hN2 hg3 (by simp)
    have hB4 : Below w.heap.size w w3 := (hB.grown hg2 (by simp; omega) (by intro k hk; cases hk; omega)).grown hg3 (by rw [hs2]; simp; omega) (by intro k hk; cases hk; omega)
    clear A B hB hN2 hg2 hs2 hg3 hs3
    refine held_begin (fun w' => NumAt w' w1.heap.size g k p j q ∧ NumAt w' (w1.heap.size + 1) g' k' p' j' q') (by kernel_rfl) ?_
    have hS : NumAt w3.drew w1.heap.size g k p j q ∧ NumAt w3.drew (w1.heap.size + 1) g' k' p' j' q' := ⟨M4, hN3⟩
    refine held_load_num 0 (some 18) rfl rfl (by kernel_rfl) (by kernel_rfl) (by kernel_rfl) noPanic_put rfl _ rfl w1.heap.size rfl g k p j q (fun _ h => h.1) hp hq hS ?_
    simp only [Act.put, List.setIfInBounds_toArray, List.set_cons_zero, List.set_cons_succ]
    refine held_load_num 1 (some 19) rfl rfl (by kernel_rfl) (by kernel_rfl) (by kernel_rfl) noPanic_put rfl _ rfl (w1.heap.size + 1) rfl g' k' p' j' q' (fun _ h => h.2) hp' hq' hS ?_
    simp only [Act.put, List.setIfInBounds_toArray, List.set_cons_zero, List.set_cons_succ]
    refine held_call 2 (some 20) (by kernel_rfl) rfl rfl rfl 39 #[.agg (numC g' k' p' j' q')] (by go_simp) _ (negated_any g' w3.drew hp' hq') ?_
    rintro e w5 ⟨rfl, hW5⟩
    have hW5 : Below w3.heap.size w3 w5 := ⟨hW5.os, hW5.tape, hW5.output, hW5.size, hW5.block⟩
    have hs5 := hW5.size
    have S5 : NumAt w5 w1.heap.size g k p j q ∧ NumAt w5 (w1.heap.size + 1) g' k' p' j' q' := ⟨RowAt.below M4 hW5 (by omega), RowAt.below hN3 hW5 (by omega)⟩
    have hB5 : Below w.heap.size w w5 := hB4.trans (hW5.mono hB4.size)
    obtain ⟨v, hv⟩ : ∃ v, v = (!g' && decide (0 < k')) := ⟨_, rfl⟩
    rw [← hv]
    have HV : Hid (topZ g (topN a.data.toList) (botN a.data.toList) v (topN b.data.toList) (botN b.data.toList) = addZ true a b) := by
      have h1 : v = (!g' && decide (topN b.data.toList ≠ 0)) := by
        rw [hv]
        congr 1
        have := RB.out.1.zero_iff
        by_cases e : k' = 0
        · rw [decide_eq_false (by omega), decide_eq_false (by simpa using this.1 e)]
        · rw [decide_eq_true (by omega), decide_eq_true (show topN b.data.toList ≠ 0 from fun e' => e (this.2 e'))]
      have h2 : sg v (topN b.data.toList) = sg (negN b.data.toList != true) (topN b.data.toList) := by
        rw [h1, sg_turn, HG.out.2]; cases negN b.data.toList <;> rfl
      unfold Hid addZ topZ
      rw [h2, HG.out.1]
    clear M4 hN3 hB4 hS hW5 hv
    refine ⟨_, rfl, S5, ?_⟩
    simp only [Act.put, List.setIfInBounds_toArray, List.set_cons_zero, List.set_cons_succ]
    refine held_call 3 (some 21) (by kernel_rfl) rfl rfl rfl 38 #[.agg (numC g k p j q), .agg (numC v k' p' j' q')] (by go_simp) _ (numPlus_any g v w5 RA.out.1 RA.out.2 RB.out.1 RB.out.2 hk hj hk' hj' H0.out.1 H0.out.2.1 H0.out.2.2) ?_
    rintro e w6 ⟨i, l, r, s, rfl, hRi, hRl, hW6⟩
    rw [HV.out] at hRi hRl ⊢
    have HRi := hide (And.intro hRi hRl)
    have hs6 := hW6.size
    have S6 : NumAt w6 w1.heap.size g k p j q ∧ NumAt w6 (w1.heap.size + 1) g' k' p' j' q' := ⟨RowAt.below S5.1 hW6 (by omega), RowAt.below S5.2 hW6 (by omega)⟩
    have hB6 : Below w.heap.size w w6 := hB5.trans (hW6.mono hB5.size)
    have HT6 : Hid (Tab w6.heap.size w6) := (HT.out.on hB6).up hB6.size
    obtain ⟨G, hG⟩ : ∃ G, G = decide (addZ true a b < 0) := ⟨_, rfl⟩
    rw [← hG]
    have HGG := hide hG
    clear hRi hRl S5 hB5 hW6 hG
    refine ⟨_, rfl, S6, ?_⟩
    simp only [Act.put, List.setIfInBounds_toArray, List.set_cons_zero, List.set_cons_succ]
    refine held_call 4 (some 22) (by kernel_rfl) rfl rfl rfl 33 #[.agg (numC G i r l s)] (by go_simp) _ (tellNum_any G w6 HRi.out.1 HRi.out.2 HT6.out) ?_
    rintro e w7 ⟨hTN, hW7⟩
    have HTN : Hid (AddNAns true a b e) := by
      refine .inl ⟨HK.out, ?_⟩
      have := hTN
      rw [HGG.out] at this
      exact this
    obtain ⟨s7, o7, rfl⟩ := hTN.form
    have hs7 := hW7.size
    have S7 : NumAt w7 w1.heap.size g k p j q ∧ NumAt w7 (w1.heap.size + 1) g' k' p' j' q' := ⟨RowAt.below S6.1 hW7 (by omega), RowAt.below S6.2 hW7 (by omega)⟩
    have hB7 : Below w.heap.size w w7 := hB6.trans (hW7.mono hB6.size)
    clear hTN S6 hB6 hW7
    refine ⟨_, rfl, S7, ?_⟩
    simp only [Act.put, List.setIfInBounds_toArray, List.set_cons_zero, List.set_cons_succ]
    refine held_val 5 (some 23) rfl rfl (by kernel_rfl) (by kernel_rfl) (by kernel_rfl) noPanic_put rfl (.string s7) (fun _ => rfl) S7 ?_
    simp only [Act.put, List.setIfInBounds_toArray, List.set_cons_zero, List.set_cons_succ]
    refine held_val 6 (some 24) rfl rfl (by kernel_rfl) (by kernel_rfl) (by kernel_rfl) noPanic_put rfl (.bool o7) (fun _ => rfl) S7 ?_
    simp only [Act.put, List.setIfInBounds_toArray, List.set_cons_zero, List.set_cons_succ]
    refine held_assign 7 (some 4) (by kernel_rfl) rfl rfl _ rfl rfl (.string s7) rfl S7 ?_
    simp only [Act.put, List.setIfInBounds_toArray, List.set_cons_zero, List.set_cons_succ]
    refine held_assign 8 (some 5) (by kernel_rfl) rfl rfl _ rfl rfl (.bool o7) rfl S7 ?_
    simp only [Act.put, List.setIfInBounds_toArray, List.set_cons_zero, List.set_cons_succ]
    refine wpAnyH_done (by kernel_rfl) ?_ _
    refine NoPanic.normal ?_
    go_wp2
    go_ret2
    exact ⟨HTN.out, hB7⟩
  | false =>
    have HI : Hid (AddNAns true a b (.returned (.tuple #[.string ⟨#[]⟩, .bool false]))) := .inr ⟨hok, rfl⟩
    clear hok hRa hRb
    go_wp2_with (first | (refine store_num rfl _ _ rfl rfl w1.heap.size g k p j q rfl rfl false 0 zP 0 zP A zP_len zP_len hp hq ?_; intro w2 hN2 hg2 hs2) | (refine store_num rfl _ _ rfl rfl (w1.heap.size + 1) g' k' p' j' q' rfl rfl false 0 zP 0 zP (RowAt.grown B hg2 (by simp)) zP_len zP_len hp' hq' ?_; intro w3 hN3 hg3 hs3))
    go_ret2
    exact ⟨HI.out, (hB.grown hg2 (by simp; omega) (by intro k hk; cases hk; omega)).grown hg3 (by rw [hs2]; simp; omega) (by intro k hk; cases hk; omega)⟩
end Go.Proofs.YteihephciiifbaaDoor
