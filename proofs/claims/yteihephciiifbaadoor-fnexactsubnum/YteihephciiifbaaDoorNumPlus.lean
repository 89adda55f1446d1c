/-
  What plus of impl's fractions answers; what AddNum and SubNum should answer, and what impl.AddNum answers.
-/
import Derived.Test.YteihephciiifbaaDoorSumTop
import Derived.Test.YteihephciiifbaaDoorImplMulNum
namespace Go.Proofs.YteihephciiifbaaDoor
open Go.RowKit
set_option linter.unusedVariables false

set_option maxHeartbeats 1000000 in
set_option maxRecDepth 100000 in
theorem numPlus_any {n m k j n' m' k' j' : Nat} {p q p' q' : List Int} (g g' : Bool) (w : World) (hP : Rep n k p) (hQ : Rep m j q) (hP' : Rep n' k' p') (hQ' : Rep m' j' q') (hk : k ≤ 100) (hj : j ≤ 100) (hk' : k' ≤ 100) (hj' : j' ≤ 100) (h0 : g = true → n ≠ 0) (h1 : m ≠ 0) (h1' : m' ≠ 0) :
    Calls Tryd.prog 38 #[.agg (numC g k p j q), .agg (numC g' k' p' j' q')] w fun e w' => ∃ (i l : Nat) (r s : List Int), e = .returned (.agg (numC (decide (topZ g n m g' n' m' < 0)) i r l s)) ∧ Rep ((topZ g n m g' n' m').natAbs / Nat.gcd (topZ g n m g' n' m').natAbs (m * m')) i r ∧ Rep (m * m' / Nat.gcd (topZ g n m g' n' m').natAbs (m * m')) l s ∧ Below w.heap.size w w' := by
  have hz2 := zero_num.1
  have hp := hP.len
  have hq := hQ.len
  have hp' := hP'.len
  have hq' := hQ'.len
  have A : NumAt (((w.alloc (.cells (numC g k p j q) 42)).alloc (.cells (numC g' k' p' j' q') 42)).alloc (.cells (numC false 0 zP 0 zP) 42)) w.heap.size g k p j q := RowAt.old (RowAt.old (NumAt.new w g k p j q) _) _
  have B : NumAt (((w.alloc (.cells (numC g k p j q) 42)).alloc (.cells (numC g' k' p' j' q') 42)).alloc (.cells (numC false 0 zP 0 zP) 42)) (w.heap.size + 1) g' k' p' j' q' := by
    have := RowAt.old (NumAt.new (w.alloc (.cells (numC g k p j q) 42)) g' k' p' j' q') (.cells (numC false 0 zP 0 zP) 42)
    simp only [World.size_alloc] at this; exact this
  have C : NumAt (((w.alloc (.cells (numC g k p j q) 42)).alloc (.cells (numC g' k' p' j' q') 42)).alloc (.cells (numC false 0 zP 0 zP) 42)) (w.heap.size + 1 + 1) false 0 zP 0 zP := by
    have := NumAt.new ((w.alloc (.cells (numC g k p j q) 42)).alloc (.cells (numC g' k' p' j' q') 42)) false 0 zP 0 zP
    simp only [World.size_alloc] at this; exact this
  have hB : Below w.heap.size w (((w.alloc (.cells (numC g k p j q) 42)).alloc (.cells (numC g' k' p' j' q') 42)).alloc (.cells (numC false 0 zP 0 zP) 42)) := (((Below.refl _ _).alloc (Nat.le_refl _) _).alloc (by simp) _).alloc (by simp; omega) _
  obtain ⟨W, hWd⟩ : ∃ W, W = (((w.alloc (.cells (numC g k p j q) 42)).alloc (.cells (numC g' k' p' j' q') 42)).alloc (.cells (numC false 0 zP 0 zP) 42)) := ⟨_, rfl⟩
  have hWs : W.heap.size = w.heap.size + 1 + 1 + 1 := by rw [hWd]; simp
  have HP := hide (And.intro hP hQ)
  have HP' := hide (And.intro hP' hQ')
  have H0 := hide (And.intro h0 (And.intro h1 h1'))
  clear hP hQ hP' hQ' h0 h1 h1'
  go_enter Tryd.func38, Tryd.ntmps38
  go_wp2_with fail
  rw [← hWd] at A B C hB ⊢
  clear hWd
  refine held_begin (fun w' => NumAt w' w.heap.size g k p j q ∧ NumAt w' (w.heap.size + 1) g' k' p' j' q') (by kernel_rfl) ?_
  have hS : NumAt W.drew w.heap.size g k p j q ∧ NumAt W.drew (w.heap.size + 1) g' k' p' j' q' := ⟨A, B⟩
  refine held_load_num 0 (some 5) rfl rfl (by kernel_rfl) (by kernel_rfl) (by kernel_rfl) noPanic_put rfl _ rfl w.heap.size rfl g k p j q (fun _ h => h.1) hp hq hS ?_
  simp only [Act.put, List.setIfInBounds_toArray, List.set_cons_zero, List.set_cons_succ]
  refine held_load_num 1 (some 6) rfl rfl (by kernel_rfl) (by kernel_rfl) (by kernel_rfl) noPanic_put rfl _ rfl (w.heap.size + 1) rfl g' k' p' j' q' (fun _ h => h.2) hp' hq' hS ?_
  simp only [Act.put, List.setIfInBounds_toArray, List.set_cons_zero, List.set_cons_succ]
  refine held_valS 3 (some 8) rfl rfl (by kernel_rfl) (by kernel_rfl) (by kernel_rfl) noPanic_put rfl (.pointer (some ⟨w.heap.size, 206, none⟩)) (fun _ _ => by go_simp) hS ?_
  simp only [Act.put, List.setIfInBounds_toArray, List.set_cons_zero, List.set_cons_succ]
  refine held_valS 4 (some 9) rfl rfl (by kernel_rfl) (by kernel_rfl) (by kernel_rfl) noPanic_put rfl (.agg (natC j q)) (fun _ h => run_mid_nat _ rfl w.heap.size 206 rfl j q (h.1.bottom hp) hq) hS ?_
  simp only [Act.put, List.setIfInBounds_toArray, List.set_cons_zero, List.set_cons_succ]
  refine held_valS 5 (some 10) rfl rfl (by kernel_rfl) (by kernel_rfl) (by kernel_rfl) noPanic_put rfl (.pointer (some ⟨w.heap.size + 1, 206, none⟩)) (fun _ _ => by go_simp) hS ?_
  simp only [Act.put, List.setIfInBounds_toArray, List.set_cons_zero, List.set_cons_succ]
  refine held_valS 6 (some 11) rfl rfl (by kernel_rfl) (by kernel_rfl) (by kernel_rfl) noPanic_put rfl (.agg (natC j' q')) (fun _ h => run_mid_nat _ rfl (w.heap.size + 1) 206 rfl j' q' (h.2.bottom hp') hq') hS ?_
  simp only [Act.put, List.setIfInBounds_toArray, List.set_cons_zero, List.set_cons_succ]
  refine held_call 2 (some 7) (by kernel_rfl) rfl rfl rfl 70 #[.agg (numC g k p j q), .agg (numC g' k' p' j' q')] (by go_simp) _ (sumTop_any g g' W.drew HP.out.1 HP.out.2 HP'.out.1 HP'.out.2 hk hj hk' hj' H0.out.1 H0.out.2.2) ?_
  rintro e w1 ⟨c, t, rfl, hR1, hW1⟩
  have hW1 : Below W.heap.size W w1 := ⟨hW1.os, hW1.tape, hW1.output, hW1.size, hW1.block⟩
  have hs1 := hW1.size
  have hc : c ≤ 202 := by have := topZ_used HP.out.1 HP.out.2 HP'.out.1 HP'.out.2 hk hj hk' hj' hR1; omega
  have HR1 := hide hR1
  have S1 : NumAt w1 w.heap.size g k p j q ∧ NumAt w1 (w.heap.size + 1) g' k' p' j' q' := ⟨RowAt.below A hW1 (by omega), RowAt.below B hW1 (by omega)⟩
  have C1 : NumAt w1 (w.heap.size + 1 + 1) false 0 zP 0 zP := RowAt.below C hW1 (by omega)
  have hB1 : Below w.heap.size w w1 := hB.trans (hW1.mono hB.size)
  obtain ⟨G, hG⟩ : ∃ G, G = decide (topZ g n m g' n' m' < 0) := ⟨_, rfl⟩
  rw [← hG]
  have HG := hide hG
  clear A B C hB hS hR1 hW1 hG
  refine ⟨_, rfl, S1, ?_⟩
  simp only [Act.put, List.setIfInBounds_toArray, List.set_cons_zero, List.set_cons_succ]
  refine held_call 7 (some 12) (by kernel_rfl) rfl rfl rfl 71 #[.agg (natC j q), .agg (natC j' q')] (by go_simp) _ (times_any w1 HP.out.2 HP'.out.2 hj hj') ?_
  rintro e w2 ⟨d, u, rfl, hR2, hW2⟩
  have hs2 := hW2.size
  have hd : d ≤ 202 := by have := Rep.mul_used HP.out.2 HP'.out.2 hR2; omega
  have hd0 : 0 < d := Nat.pos_of_ne_zero (fun e => Nat.mul_ne_zero H0.out.2.1 H0.out.2.2 (hR2.zero_iff.1 e))
  have HR2 := hide hR2
  have S2 : NumAt w2 w.heap.size g k p j q ∧ NumAt w2 (w.heap.size + 1) g' k' p' j' q' := ⟨RowAt.below S1.1 hW2 (by omega), RowAt.below S1.2 hW2 (by omega)⟩
  have C2 : NumAt w2 (w.heap.size + 1 + 1) false 0 zP 0 zP := RowAt.below C1 hW2 (by omega)
  have hB2 : Below w.heap.size w w2 := hB1.trans (hW2.mono hB1.size)
  clear S1 C1 hB1 hR2 hW2
  refine ⟨_, rfl, S2, ?_⟩
  simp only [Act.put, List.setIfInBounds_toArray, List.set_cons_zero, List.set_cons_succ]
  refine held_call 8 (some 13) (by kernel_rfl) rfl rfl rfl 34 #[.agg (wholeC G c t), .agg (natC d u)] (by go_simp) _ (fraction_any G w2 HR1.out HR2.out hd0 hc hd) ?_
  rintro e w3 ⟨i, l, r, s, rfl, hRi, hRl, hW3⟩
  have hr := hRi.len
  have hs := hRl.len
  have HRi := hide (And.intro hRi hRl)
  have hs3 := hW3.size
  have S3 : NumAt w3 w.heap.size g k p j q ∧ NumAt w3 (w.heap.size + 1) g' k' p' j' q' := ⟨RowAt.below S2.1 hW3 (by omega), RowAt.below S2.2 hW3 (by omega)⟩
  have C3 : NumAt w3 (w.heap.size + 1 + 1) false 0 zP 0 zP := RowAt.below C2 hW3 (by omega)
  have hB3 : Below w.heap.size w w3 := hB2.trans (hW3.mono hB2.size)
  clear S2 C2 hB2 hW3 hRi hRl
  refine ⟨_, rfl, S3, ?_⟩
  simp only [Act.put, List.setIfInBounds_toArray, List.set_cons_zero, List.set_cons_succ]
  refine held_store_num 9 (by kernel_rfl) rfl rfl _ _ rfl rfl (w.heap.size + 1 + 1) G i r l s rfl rfl false 0 zP 0 zP C3 zP_len zP_len hr hs ?_
  intro w4 hN4 hg4 hs4
  refine ⟨⟨RowAt.grown S3.1 hg4 (by simp; omega), RowAt.grown S3.2 hg4 (by simp)⟩, ?_⟩
  refine wpAnyH_done (by kernel_rfl) ?_ _
  refine NoPanic.normal ?_
  go_wp2
  refine bodyPost_ret (v := .agg (numC G i r l s)) (res_num Tryd.results38 _ _ (w.heap.size + 1 + 1) _ _ _ _ _ rfl hN4 hr hs) rfl ⟨i, l, r, s, by rw [HG.out], HRi.out.1, HRi.out.2, ?_⟩
  exact hB3.grown hg4 (by have := hB3.size; omega) (by intro k hk; cases hk; omega)

/-- What is to be told of a sum, or of a difference where less says so. -/
def addZ (less : Bool) (a b : ByteArray) : Int := topZ (negN a.data.toList) (topN a.data.toList) (botN a.data.toList) (negN b.data.toList != less) (topN b.data.toList) (botN b.data.toList)
def addBot (a b : ByteArray) : Nat := botN a.data.toList * botN b.data.toList
def AddNAns (less : Bool) (a b : ByteArray) (e : Ending) : Prop :=
  ((okN a.data.toList && okN b.data.toList) = true ∧ TellsN (decide (addZ less a b < 0)) ((addZ less a b).natAbs / Nat.gcd (addZ less a b).natAbs (addBot a b)) (addBot a b / Nat.gcd (addZ less a b).natAbs (addBot a b)) e) ∨ ((okN a.data.toList && okN b.data.toList) = false ∧ Mute e)
theorem AddNAns.same {d : Bool} {a b : ByteArray} {e e' : Ending} (h : AddNAns d a b e) (h' : AddNAns d a b e') : ∃ (s : ByteArray) (o : Bool), e = .returned (.tuple #[.string s, .bool o]) ∧ e' = .returned (.tuple #[.string s, .bool o]) := by
  rcases h with ⟨g1, h⟩ | ⟨g1, h⟩ <;> rcases h' with ⟨g2, h'⟩ | ⟨g2, h'⟩
  · exact h.same h'
  · rw [g1] at g2; cases g2
  · rw [g1] at g2; cases g2
  · exact h.same h'
theorem okN_bot' {l : List UInt8} (h : okN l = true) : botN l ≠ 0 := by
  unfold okN at h
  unfold botN
  cases hb : brokenN l with
  | false => simp
  | true =>
    rw [hb] at h
    simp only [Bool.and_eq_true, Bool.not_true, Bool.false_or, decide_eq_true_eq] at h
    rw [if_pos rfl]
    exact h.2.2.1
theorem okN_neg' {l : List UInt8} (h : okN l = true) (hn : negN l = true) : topN l ≠ 0 := by
  unfold okN at h
  unfold topN
  rw [hn] at h
  simp only [Bool.and_eq_true, Bool.true_and, Bool.not_eq_true', decide_eq_false_iff_not] at h
  exact h.1.2
theorem sg_neg (h : Bool) (N : Nat) : (h && decide (N ≠ 0)) = decide (sg h N < 0) := by
  unfold sg
  by_cases hN : N = 0
  · subst hN; cases h <;> rfl
  · rw [decide_eq_true hN, Bool.and_true]
    cases h with
    | true => simp <;> omega
    | false => simp <;> omega
theorem sg_turn (h : Bool) (N : Nat) : sg (h && decide (N ≠ 0)) N = sg h N := by
  unfold sg
  by_cases hN : N = 0
  · subst hN; cases h <;> rfl
  · rw [decide_eq_true hN, Bool.and_true]

set_option maxHeartbeats 1000000 in
set_option maxRecDepth 100000 in
theorem implAddNum_any (a b : ByteArray) (w : World) (hsa : a.size ≤ maxLen) (hsb : b.size ≤ maxLen) (hT : Tab w.heap.size w) :
    Calls Tryd.prog 15 #[.string a, .string b] w fun e w' => AddNAns false a b e ∧ Below w.heap.size w w' := by
  have hz := zero_num.1
  have HT : Hid (Tab w.heap.size w) := hT
  clear hT
  go_enter Tryd.func15, Tryd.ntmps15
  go_wp2_with fail
  refine (readNums_any a b _ hsa hsb).mono ?_
  rintro e w1 ⟨g, g', k, j, k', j', p, q, p', q', rfl, ⟨hp, hq, hRa⟩, ⟨hp', hq', hRb⟩, hW1⟩
  have hs1 := hW1.size
  have A : NumAt ((w1.alloc (.cells (numC false 0 zP 0 zP) 42)).alloc (.cells (numC false 0 zP 0 zP) 42)) w1.heap.size false 0 zP 0 zP := RowAt.old (NumAt.new w1 false 0 zP 0 zP) _
  have B : NumAt ((w1.alloc (.cells (numC false 0 zP 0 zP) 42)).alloc (.cells (numC false 0 zP 0 zP) 42)) (w1.heap.size + 1) false 0 zP 0 zP := by
    have := NumAt.new (w1.alloc (.cells (numC false 0 zP 0 zP) 42)) false 0 zP 0 zP
    simp only [World.size_alloc] at this; exact this
  have hB : Below w.heap.size w ((w1.alloc (.cells (numC false 0 zP 0 zP) 42)).alloc (.cells (numC false 0 zP 0 zP) 42)) := (hW1.alloc (by omega) _).alloc (by simp; omega) _
  cases hok : (okN a.data.toList && okN b.data.toList) with
  | true =>
    obtain ⟨ha, hb⟩ : okN a.data.toList = true ∧ okN b.data.toList = true := by simpa using hok
    obtain ⟨hg, ra, rb, hk, hj, hj0⟩ := hRa ha
    obtain ⟨hg', ra', rb', hk', hj', hj0'⟩ := hRb hb
    have RA := hide (And.intro ra rb)
    have RB := hide (And.intro ra' rb')
    have HG := hide (And.intro hg hg')
    have HK := hide hok
    have H0 : Hid ((g = true → topN a.data.toList ≠ 0) ∧ botN a.data.toList ≠ 0 ∧ botN b.data.toList ≠ 0) := ⟨fun h => okN_neg' ha (by rw [← hg]; exact h), okN_bot' ha, okN_bot' hb⟩
    clear ha hb hg hg' ra rb ra' rb' hRa hRb hok
    go_wp2_with (first | (refine store_num rfl _ _ rfl rfl w1.heap.size g k p j q rfl rfl false 0 zP 0 zP A zP_len zP_len hp hq ?_; intro w2 hN2 hg2 hs2) | (refine store_num rfl _ _ rfl rfl (w1.heap.size + 1) g' k' p' j' q' rfl rfl false 0 zP 0 zP (RowAt.grown B hg2 (by simp)) zP_len zP_len hp' hq' ?_; intro w3 hN3 hg3 hs3) | (refine load_num rfl _ rfl w1.heap.size rfl g k p j q (RowAt.grown hN2 hg3 (by simp)) hp hq ?_) | (refine load_num rfl _ rfl (w1.heap.size + 1) rfl g' k' p' j' q' hN3 hp' hq' ?_))
    have hB3 : Below w.heap.size w w3 := (hB.grown hg2 (by simp; omega) (by intro k hk; cases hk; omega)).grown hg3 (by rw [hs2]; simp; omega) (by intro k hk; cases hk; omega)
    clear A B hB hN2 hg2 hs2 hN3 hg3 hs3
    refine (numPlus_any g g' w3 RA.out.1 RA.out.2 RB.out.1 RB.out.2 hk hj hk' hj' H0.out.1 H0.out.2.1 H0.out.2.2).mono ?_
    rintro e w4 ⟨i, l, r, s, rfl, hRi, hRl, hW4⟩
    have hZ : topZ g (topN a.data.toList) (botN a.data.toList) g' (topN b.data.toList) (botN b.data.toList) = addZ false a b := by
      unfold addZ; rw [HG.out.1, HG.out.2]; simp
    rw [hZ] at hRi hRl ⊢
    have HRi := hide (And.intro hRi hRl)
    have hB4 : Below w.heap.size w w4 := hB3.trans (hW4.mono hB3.size)
    have HT4 : Hid (Tab w4.heap.size w4) := (HT.out.on hB4).up hB4.size
    obtain ⟨G, hG⟩ : ∃ G, G = decide (addZ false a b < 0) := ⟨_, rfl⟩
    rw [← hG]
    have HGG := hide hG
    clear hRi hRl hB3 hW4 hG hZ
    go_wp2_with fail
    refine (tellNum_any G w4 HRi.out.1 HRi.out.2 HT4.out).mono ?_
    rintro e w5 ⟨hTN, hW5⟩
    have HTN : Hid (AddNAns false a b e) := by
      refine .inl ⟨HK.out, ?_⟩
      have := hTN
      rw [HGG.out] at this
      exact this
    obtain ⟨s5, o5, rfl⟩ := hTN.form
    clear hTN
    go_wp2
    go_ret2
    exact ⟨HTN.out, hB4.trans (hW5.mono hB4.size)⟩
  | false =>
    have HI : Hid (AddNAns false a b (.returned (.tuple #[.string ⟨#[]⟩, .bool false]))) := .inr ⟨hok, rfl⟩
    clear hok hRa hRb
    go_wp2_with (first | (refine store_num rfl _ _ rfl rfl w1.heap.size g k p j q rfl rfl false 0 zP 0 zP A zP_len zP_len hp hq ?_; intro w2 hN2 hg2 hs2) | (refine store_num rfl _ _ rfl rfl (w1.heap.size + 1) g' k' p' j' q' rfl rfl false 0 zP 0 zP (RowAt.grown B hg2 (by simp)) zP_len zP_len hp' hq' ?_; intro w3 hN3 hg3 hs3))
    go_ret2
    exact ⟨HI.out, (hB.grown hg2 (by simp; omega) (by intro k hk; cases hk; omega)).grown hg3 (by rw [hs2]; simp; omega) (by intro k hk; cases hk; omega)⟩
end Go.Proofs.YteihephciiifbaaDoor
