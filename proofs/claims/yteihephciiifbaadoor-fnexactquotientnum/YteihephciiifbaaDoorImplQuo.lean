/-
  What QuotientNum should answer, and what impl.QuotientNum answers.
-/
import Derived.Test.YteihephciiifbaaDoorImplDivNum
import Derived.Test.YteihephciiifbaaDoorFloor
namespace Go.Proofs.YteihephciiifbaaDoor
open Go.RowKit
set_option linter.unusedVariables false

def wholeOk (l : List UInt8) : Bool := okN l && decide (botN l = 1)
def quoOk (a b : ByteArray) : Bool := (wholeOk a.data.toList && wholeOk b.data.toList) && decide (topN b.data.toList ≠ 0)
def Mute3 (e : Ending) : Prop := e = .returned (.tuple #[.string ⟨#[]⟩, .string ⟨#[]⟩, .bool false])
def QuoR (a b : ByteArray) (s t : ByteArray) : Prop :=
  NumR 10 ((negN a.data.toList != negN b.data.toList) && decide (topN a.data.toList / topN b.data.toList ≠ 0)) (topN a.data.toList / topN b.data.toList) 1 s ∧
  NumR 10 (negN a.data.toList && decide (topN a.data.toList % topN b.data.toList ≠ 0)) (topN a.data.toList % topN b.data.toList) 1 t
def QuoAns (a b : ByteArray) (e : Ending) : Prop :=
  (quoOk a b = true ∧ ∃ s t : ByteArray, e = .returned (.tuple #[.string s, .string t, .bool true]) ∧ QuoR a b s t) ∨ (quoOk a b = false ∧ Mute3 e)
theorem QuoAns.same {a b : ByteArray} {e e' : Ending} (h : QuoAns a b e) (h' : QuoAns a b e') : ∃ (s t : ByteArray) (o : Bool), e = .returned (.tuple #[.string s, .string t, .bool o]) ∧ e' = .returned (.tuple #[.string s, .string t, .bool o]) := by
  rcases h with ⟨g1, s, t, rfl, h⟩ | ⟨g1, h⟩ <;> rcases h' with ⟨g2, s', t', rfl, h'⟩ | ⟨g2, h'⟩
  · obtain rfl := h.1.inj h'.1
    obtain rfl := h.2.inj h'.2
    exact ⟨s, t, true, rfl, rfl⟩
  · rw [g1] at g2; cases g2
  · rw [g1] at g2; cases g2
  · exact ⟨_, _, _, h, h'⟩
theorem whole_num {g : Bool} {n : Nat} {s : ByteArray} (h : WholeR 10 g n s) : NumR 10 g n 1 s := by
  obtain ⟨t, ht, hs⟩ := h
  exact ⟨t, ⟨#[49]⟩, ht, InRad.dec one_canon.1 one_canon.2, by rw [hs, if_pos rfl, List.append_nil]⟩
theorem used_ne {n k : Nat} {p : List Int} (h : Rep n k p) : decide (0 < k) = decide (n ≠ 0) := by
  have h := h.zero_iff
  by_cases e : k = 0
  · rw [decide_eq_false (by omega), decide_eq_false (by have := h.1 e; omega)]
  · rw [decide_eq_true (by omega), decide_eq_true (show n ≠ 0 from fun e' => e (h.2 e'))]

set_option maxHeartbeats 2000000 in
set_option maxRecDepth 100000 in
theorem implQuo_any (a b : ByteArray) (w : World) (hsa : a.size ≤ maxLen) (hsb : b.size ≤ maxLen) (hT : Tab w.heap.size w) :
    Calls Tryd.prog 25 #[.string a, .string b] w fun e w' => QuoAns a b e ∧ Below w.heap.size w w' := by
  have hz := zero_num.1
  have hz0 := zero_nat.1
  have HT : Hid (Tab w.heap.size w) := hT
  clear hT
  go_enter Tryd.func25, Tryd.ntmps25
  go_wp2_with fail
  refine (readNums_any a b _ hsa hsb).mono ?_
  rintro e w1 ⟨g, g', k, j, k', j', p, q, p', q', rfl, ⟨hp, hq, hRa⟩, ⟨hp', hq', hRb⟩, hW1⟩
  have hs1 := hW1.size
  have A : NumAt ((w1.alloc (.cells (numC false 0 zP 0 zP) 42)).alloc (.cells (numC false 0 zP 0 zP) 42)) w1.heap.size false 0 zP 0 zP := RowAt.old (NumAt.new w1 false 0 zP 0 zP) _
  have B : NumAt ((w1.alloc (.cells (numC false 0 zP 0 zP) 42)).alloc (.cells (numC false 0 zP 0 zP) 42)) (w1.heap.size + 1) false 0 zP 0 zP := by
    have := NumAt.new (w1.alloc (.cells (numC false 0 zP 0 zP) 42)) false 0 zP 0 zP
    simp only [World.size_alloc] at this; exact this
  have hB : Below w.heap.size w ((w1.alloc (.cells (numC false 0 zP 0 zP) 42)).alloc (.cells (numC false 0 zP 0 zP) 42)) := (hW1.alloc (by omega) _).alloc (by simp; omega) _
  have NO : Hid (quoOk a b = false → QuoAns a b (.returned (.tuple #[.string ⟨#[]⟩, .string ⟨#[]⟩, .bool false]))) := fun h => .inr ⟨h, rfl⟩
  cases hok : (okN a.data.toList && okN b.data.toList) with
  | true =>
    obtain ⟨ha, hb⟩ : okN a.data.toList = true ∧ okN b.data.toList = true := by simpa using hok
    obtain ⟨hg, ra, rb, hk, hj, hj0⟩ := hRa ha
    obtain ⟨hg', ra', rb', hk', hj', hj0'⟩ := hRb hb
    have RA := hide (And.intro ra rb)
    have RB := hide (And.intro ra' rb')
    have HG := hide (And.intro hg hg')
    have HOK := hide (And.intro ha hb)
    clear ha hb hg hg' ra rb ra' rb' hRa hRb hok
    go_wp2_with (first | (refine store_num rfl _ _ rfl rfl w1.heap.size g k p j q rfl rfl false 0 zP 0 zP A zP_len zP_len hp hq ?_; intro w2 hN2 hg2 hs2) | (refine store_num rfl _ _ rfl rfl (w1.heap.size + 1) g' k' p' j' q' rfl rfl false 0 zP 0 zP (RowAt.grown B hg2 (by simp)) zP_len zP_len hp' hq' ?_; intro w3 hN3 hg3 hs3) | (refine load_num_w rfl _ rfl w1.heap.size rfl g k p j q (RowAt.grown hN2 hg3 (by simp)) hp hq ?_))
    have hs3' : w3.heap.size = w1.heap.size + 1 + 1 := by rw [hs3, hs2]; simp
    have M3 : NumAt w3 w1.heap.size g k p j q := RowAt.grown hN2 hg3 (by simp)
    have hB3 : Below w.heap.size w w3 := (hB.grown hg2 (by simp; omega) (by intro k hk; cases hk; omega)).grown hg3 (by rw [hs2]; simp; omega) (by intro k hk; cases hk; omega)
    clear A B hB hN2 hg2 hs2 hg3 hs3
    refine (isWhole_any (n := 0) g w3 hp RA.out.2).mono ?_
    rintro e w4 ⟨rfl, hW4⟩
    have M4 : NumAt w4 w1.heap.size g k p j q := RowAt.below M3 hW4 (by omega)
    have N4 : NumAt w4 (w1.heap.size + 1) g' k' p' j' q' := RowAt.below hN3 hW4 (by omega)
    have hs4 := hW4.size
    have hB4 : Below w.heap.size w w4 := hB3.trans (hW4.mono hB3.size)
    clear M3 hN3 hB3 hW4
    by_cases hwa : botN a.data.toList = 1
    · rw [decide_eq_true hwa]
      have HWA := hide hwa
      clear hwa
      go_wp2_with (refine load_num_w rfl _ rfl (w1.heap.size + 1) rfl g' k' p' j' q' N4 hp' hq' ?_)
      refine (isWhole_any (n := 0) g' w4 hp' RB.out.2).mono ?_
      rintro e w5 ⟨rfl, hW5⟩
      have M5 : NumAt w5 w1.heap.size g k p j q := RowAt.below M4 hW5 (by omega)
      have N5 : NumAt w5 (w1.heap.size + 1) g' k' p' j' q' := RowAt.below N4 hW5 (by omega)
      have hs5 := hW5.size
      have hB5 : Below w.heap.size w w5 := hB4.trans (hW5.mono hB4.size)
      clear M4 N4 hB4 hW5
      by_cases hwb : botN b.data.toList = 1
      · rw [decide_eq_true hwb]
        have HWB := hide hwb
        clear hwb
        go_wp2_with (refine load_whole_w rfl _ rfl (w1.heap.size + 1) 0 rfl g' k' p' N5.whole hp' ?_)
        refine (sign_any g' w5).mono ?_
        rintro e w6 ⟨rfl, hW6⟩
        have M6 : NumAt w6 w1.heap.size g k p j q := RowAt.below M5 hW6 (by omega)
        have N6 : NumAt w6 (w1.heap.size + 1) g' k' p' j' q' := RowAt.below N5 hW6 (by omega)
        have hs6 := hW6.size
        have hB6 : Below w.heap.size w w6 := hB5.trans (hW6.mono hB5.size)
        clear M5 N5 hB5 hW6
        by_cases hk0 : k' = 0
        · have HI := hide (NO.out (by unfold quoOk; rw [RB.out.1.zero_iff.1 hk0]; simp))
          have hs0 : (sgn g' k' == 0) = true := by rw [sgn_zero]; exact decide_eq_true hk0
          clear hk0
          go_wp2
          go_ret3
          exact ⟨HI.out, hB6⟩
        · have HK : Hid (quoOk a b = true) := by
            unfold Hid quoOk wholeOk
            rw [HOK.out.1, HOK.out.2, HWA.out, HWB.out, decide_eq_true (show topN b.data.toList ≠ 0 from fun e => hk0 (RB.out.1.zero_iff.2 e))]; rfl
          have hs0 : (sgn g' k' == 0) = false := by rw [sgn_zero]; exact decide_eq_false hk0
          go_wp2_with (first | (refine load_mid_nat rfl _ rfl w1.heap.size 1 rfl k p M6.size hp ?_) | (refine load_mid_nat rfl _ rfl (w1.heap.size + 1) 1 rfl k' p' N6.size hp' ?_))
          refine (divide_any w6 RA.out.1 RB.out.1 (Nat.pos_of_ne_zero hk0) (by omega)).mono ?_
          rintro e w7 ⟨i, l, r, s, rfl, hR1, hR2, hW7⟩
          have hr := hR1.len
          have hs := hR2.len
          have hi : i ≤ 100 := by have := hR1.cnt_le RA.out.1 (Nat.div_le_self _ _); omega
          have hl : l ≤ 100 := by have := hR2.cnt_le RA.out.1 (Nat.mod_le _ _); omega
          have HU := hide (And.intro (used_ne hR1) (used_ne hR2))
          have HR := hide (And.intro hR1 hR2)
          have hs7 := hW7.size
          have M7 : NumAt w7 w1.heap.size g k p j q := RowAt.below M6 hW7 (by omega)
          have N7 : NumAt w7 (w1.heap.size + 1) g' k' p' j' q' := RowAt.below N6 hW7 (by omega)
          have hB7 : Below w.heap.size w w7 := hB6.trans (hW7.mono hB6.size)
          have F1 := (NatAt.new w7 0 zP).old (.cells (natC 0 zP) 35)
          have F2 := NatAt.new (w7.alloc (.cells (natC 0 zP) 35)) 0 zP
          simp only [World.size_alloc] at F2
          clear M6 N6 hB6 hW7 hR1 hR2 hs0 hk0
          go_wp2_with (first | (refine store_nat rfl _ _ rfl rfl w7.heap.size i r rfl rfl 0 zP F1 zP_len hr ?_; intro w8 hN8 hg8 hs8) | (refine store_nat rfl _ _ rfl rfl (w7.heap.size + 1) l s rfl rfl 0 zP (F2.grown hg8 (by simp)) zP_len hs ?_; intro w9 hN9 hg9 hs9))
          have hs9' : w9.heap.size = w7.heap.size + 1 + 1 := by rw [hs9, hs8]; simp
          have K9 := hN8.grown hg9 (by simp)
          have M9 : NumAt w9 w1.heap.size g k p j q := RowAt.grown (RowAt.grown (RowAt.old (RowAt.old M7 (.cells (natC 0 zP) 35)) (.cells (natC 0 zP) 35)) hg8 (by simp; omega)) hg9 (by simp; omega)
          have N9 : NumAt w9 (w1.heap.size + 1) g' k' p' j' q' := RowAt.grown (RowAt.grown (RowAt.old (RowAt.old N7 (.cells (natC 0 zP) 35)) (.cells (natC 0 zP) 35)) hg8 (by simp; omega)) hg9 (by simp; omega)
          have hB9 : Below w.heap.size w w9 := (((hB7.alloc (by omega) _).alloc (by simp; omega) _).grown hg8 (by simp; omega) (by intro k hk; cases hk; omega)).grown hg9 (by rw [hs8]; simp; omega) (by intro k hk; cases hk; omega)
          clear M7 N7 hB7 F1 F2 hN8 hg8 hs8 hg9 hs9
          refine held_begin (fun w' => (NumAt w' w1.heap.size g k p j q ∧ NumAt w' (w1.heap.size + 1) g' k' p' j' q') ∧ (NatAt w' w7.heap.size i r ∧ NatAt w' (w7.heap.size + 1) l s)) (by kernel_rfl) ?_
          have hS : (NumAt w9.drew w1.heap.size g k p j q ∧ NumAt w9.drew (w1.heap.size + 1) g' k' p' j' q') ∧ (NatAt w9.drew w7.heap.size i r ∧ NatAt w9.drew (w7.heap.size + 1) l s) := ⟨⟨M9, N9⟩, ⟨K9, hN9⟩⟩
          refine held_valS 0 (some 47) rfl rfl (by kernel_rfl) (by kernel_rfl) (by kernel_rfl) noPanic_put rfl (.pointer (some ⟨w1.heap.size, 0, none⟩)) (fun _ _ => by go_simp) hS ?_
          simp only [Act.put, List.setIfInBounds_toArray, List.set_cons_zero, List.set_cons_succ]
          refine held_valS 1 (some 48) rfl rfl (by kernel_rfl) (by kernel_rfl) (by kernel_rfl) noPanic_put rfl (.pointer (some ⟨w1.heap.size, 0, none⟩)) (fun _ _ => by go_simp) hS ?_
          simp only [Act.put, List.setIfInBounds_toArray, List.set_cons_zero, List.set_cons_succ]
          refine held_valS 2 (some 49) rfl rfl (by kernel_rfl) (by kernel_rfl) (by kernel_rfl) noPanic_put rfl (.bool g) (fun _ h => by have c := h.1.1.neg; go_simp) hS ?_
          simp only [Act.put, List.setIfInBounds_toArray, List.set_cons_zero, List.set_cons_succ]
          refine held_valS 3 (some 50) rfl rfl (by kernel_rfl) (by kernel_rfl) (by kernel_rfl) noPanic_put rfl (.pointer (some ⟨w1.heap.size + 1, 0, none⟩)) (fun _ _ => by go_simp) hS ?_
          simp only [Act.put, List.setIfInBounds_toArray, List.set_cons_zero, List.set_cons_succ]
          refine held_valS 4 (some 51) rfl rfl (by kernel_rfl) (by kernel_rfl) (by kernel_rfl) noPanic_put rfl (.pointer (some ⟨w1.heap.size + 1, 0, none⟩)) (fun _ _ => by go_simp) hS ?_
          simp only [Act.put, List.setIfInBounds_toArray, List.set_cons_zero, List.set_cons_succ]
          refine held_valS 5 (some 52) rfl rfl (by kernel_rfl) (by kernel_rfl) (by kernel_rfl) noPanic_put rfl (.bool g') (fun _ h => by have c := h.1.2.neg; go_simp) hS ?_
          simp only [Act.put, List.setIfInBounds_toArray, List.set_cons_zero, List.set_cons_succ]
          refine held_valS 6 (some 53) rfl rfl (by kernel_rfl) (by kernel_rfl) (by kernel_rfl) noPanic_put rfl (.bool (g != g')) (fun _ _ => by cases g <;> cases g' <;> go_simp) hS ?_
          simp only [Act.put, List.setIfInBounds_toArray, List.set_cons_zero, List.set_cons_succ]
          refine held_load 7 (some 54) rfl rfl (by kernel_rfl) (by kernel_rfl) (by kernel_rfl) noPanic_put rfl _ rfl w7.heap.size rfl i r (fun _ h => h.2.1) hr hS ?_
          simp only [Act.put, List.setIfInBounds_toArray, List.set_cons_zero, List.set_cons_succ]
          refine held_valS 10 (some 57) rfl rfl (by kernel_rfl) (by kernel_rfl) (by kernel_rfl) noPanic_put rfl (.pointer (some ⟨w1.heap.size, 0, none⟩)) (fun _ _ => by go_simp) hS ?_
          simp only [Act.put, List.setIfInBounds_toArray, List.set_cons_zero, List.set_cons_succ]
          refine held_valS 11 (some 58) rfl rfl (by kernel_rfl) (by kernel_rfl) (by kernel_rfl) noPanic_put rfl (.pointer (some ⟨w1.heap.size, 0, none⟩)) (fun _ _ => by go_simp) hS ?_
          simp only [Act.put, List.setIfInBounds_toArray, List.set_cons_zero, List.set_cons_succ]
          refine held_valS 12 (some 59) rfl rfl (by kernel_rfl) (by kernel_rfl) (by kernel_rfl) noPanic_put rfl (.bool g) (fun _ h => by have c := h.1.1.neg; go_simp) hS ?_
          simp only [Act.put, List.setIfInBounds_toArray, List.set_cons_zero, List.set_cons_succ]
          refine held_load 13 (some 60) rfl rfl (by kernel_rfl) (by kernel_rfl) (by kernel_rfl) noPanic_put rfl _ rfl (w7.heap.size + 1) rfl l s (fun _ h => h.2.2) hs hS ?_
          simp only [Act.put, List.setIfInBounds_toArray, List.set_cons_zero, List.set_cons_succ]
          refine held_call 8 (some 55) (by kernel_rfl) rfl rfl rfl 35 #[.bool (g != g'), .agg (natC i r)] (by go_simp) _ (wholeOf_any (g != g') i r w9.drew hr) ?_
          rintro e w10 ⟨rfl, hW10⟩
          have hW10 : Below w9.heap.size w9 w10 := ⟨hW10.os, hW10.tape, hW10.output, hW10.size, hW10.block⟩
          have hs10 := hW10.size
          have S10 : (NumAt w10 w1.heap.size g k p j q ∧ NumAt w10 (w1.heap.size + 1) g' k' p' j' q') ∧ (NatAt w10 w7.heap.size i r ∧ NatAt w10 (w7.heap.size + 1) l s) := ⟨⟨RowAt.below M9 hW10 (by omega), RowAt.below N9 hW10 (by omega)⟩, ⟨K9.below hW10 (by omega), hN9.below hW10 (by omega)⟩⟩
          have hB10 : Below w.heap.size w w10 := hB9.trans (hW10.mono hB9.size)
          have HT10 : Hid (Tab w10.heap.size w10) := (HT.out.on hB10).up hB10.size
          clear hS M9 N9 K9 hN9 hB9 hW10
          refine ⟨_, rfl, S10, ?_⟩
          simp only [Act.put, List.setIfInBounds_toArray, List.set_cons_zero, List.set_cons_succ]
          refine held_call 9 (some 56) (by kernel_rfl) rfl rfl rfl 49 #[.agg (wholeC ((g != g') && decide (0 < i)) i r), .int .i64 10] (by go_simp) _ (wholeText_any ((g != g') && decide (0 < i)) 10 10 w10 HR.out.1 hi rfl (by omega) (by omega) HT10.out) ?_
          rintro e w11 ⟨s1, rfl, hX1, hW11⟩
          have HX1 := hide (whole_num hX1)
          have hs11 := hW11.size
          have S11 : (NumAt w11 w1.heap.size g k p j q ∧ NumAt w11 (w1.heap.size + 1) g' k' p' j' q') ∧ (NatAt w11 w7.heap.size i r ∧ NatAt w11 (w7.heap.size + 1) l s) := ⟨⟨RowAt.below S10.1.1 hW11 (by omega), RowAt.below S10.1.2 hW11 (by omega)⟩, ⟨S10.2.1.below hW11 (by omega), S10.2.2.below hW11 (by omega)⟩⟩
          have hB11 : Below w.heap.size w w11 := hB10.trans (hW11.mono hB10.size)
          clear hX1 S10 hB10 hW11
          refine ⟨_, rfl, S11, ?_⟩
          simp only [Act.put, List.setIfInBounds_toArray, List.set_cons_zero, List.set_cons_succ]
          refine held_call 14 (some 61) (by kernel_rfl) rfl rfl rfl 35 #[.bool g, .agg (natC l s)] (by go_simp) _ (wholeOf_any g l s w11 hs) ?_
          rintro e w12 ⟨rfl, hW12⟩
          have hs12 := hW12.size
          have S12 : (NumAt w12 w1.heap.size g k p j q ∧ NumAt w12 (w1.heap.size + 1) g' k' p' j' q') ∧ (NatAt w12 w7.heap.size i r ∧ NatAt w12 (w7.heap.size + 1) l s) := ⟨⟨RowAt.below S11.1.1 hW12 (by omega), RowAt.below S11.1.2 hW12 (by omega)⟩, ⟨S11.2.1.below hW12 (by omega), S11.2.2.below hW12 (by omega)⟩⟩
          have hB12 : Below w.heap.size w w12 := hB11.trans (hW12.mono hB11.size)
          have HT12 : Hid (Tab w12.heap.size w12) := (HT.out.on hB12).up hB12.size
          clear S11 hB11 hW12
          refine ⟨_, rfl, S12, ?_⟩
          simp only [Act.put, List.setIfInBounds_toArray, List.set_cons_zero, List.set_cons_succ]
          refine held_call 15 (some 62) (by kernel_rfl) rfl rfl rfl 49 #[.agg (wholeC (g && decide (0 < l)) l s), .int .i64 10] (by go_simp) _ (wholeText_any (g && decide (0 < l)) 10 10 w12 HR.out.2 hl rfl (by omega) (by omega) HT12.out) ?_
          rintro e w13 ⟨s2, rfl, hX2, hW13⟩
          have HI : Hid (QuoAns a b (.returned (.tuple #[.string s1, .string s2, .bool true]))) := by
            refine .inl ⟨HK.out, s1, s2, rfl, ?_⟩
            have h1 := HX1.out
            have h2 := whole_num hX2
            rw [HU.out.1, HG.out.1, HG.out.2] at h1
            rw [HU.out.2, HG.out.1] at h2
            exact ⟨h1, h2⟩
          have hs13 := hW13.size
          have S13 : (NumAt w13 w1.heap.size g k p j q ∧ NumAt w13 (w1.heap.size + 1) g' k' p' j' q') ∧ (NatAt w13 w7.heap.size i r ∧ NatAt w13 (w7.heap.size + 1) l s) := ⟨⟨RowAt.below S12.1.1 hW13 (by omega), RowAt.below S12.1.2 hW13 (by omega)⟩, ⟨S12.2.1.below hW13 (by omega), S12.2.2.below hW13 (by omega)⟩⟩
          have hB13 : Below w.heap.size w w13 := hB12.trans (hW13.mono hB12.size)
          clear hX2 S12 hB12 hW13
          refine ⟨_, rfl, S13, ?_⟩
          simp only [Act.put, List.setIfInBounds_toArray, List.set_cons_zero, List.set_cons_succ]
          refine held_assign 16 (some 4) (by kernel_rfl) rfl rfl _ rfl rfl (.string s1) rfl S13 ?_
          simp only [Act.put, List.setIfInBounds_toArray, List.set_cons_zero, List.set_cons_succ]
          refine held_assign 17 (some 5) (by kernel_rfl) rfl rfl _ rfl rfl (.string s2) rfl S13 ?_
          simp only [Act.put, List.setIfInBounds_toArray, List.set_cons_zero, List.set_cons_succ]
          refine held_assign 18 (some 6) (by kernel_rfl) rfl rfl _ rfl rfl (.bool true) rfl S13 ?_
          simp only [Act.put, List.setIfInBounds_toArray, List.set_cons_zero, List.set_cons_succ]
          refine wpAnyH_done (by kernel_rfl) ?_ _
          refine NoPanic.normal ?_
          go_wp2
          go_ret3
          exact ⟨HI.out, hB13⟩
      · rw [decide_eq_false hwb]
        have HI := hide (NO.out (by unfold quoOk wholeOk; rw [decide_eq_false hwb]; simp))
        clear hwb
        go_wp2
        go_ret3
        exact ⟨HI.out, hB5⟩
    · rw [decide_eq_false hwa]
      have HI := hide (NO.out (by unfold quoOk wholeOk; rw [decide_eq_false hwa]; simp))
      clear hwa
      go_wp2
      go_ret3
      exact ⟨HI.out, hB4⟩
  | false =>
    have HI := hide (NO.out (by
      unfold quoOk wholeOk
      rcases Bool.and_eq_false_iff.1 hok with h | h
      · rw [h]; simp
      · rw [h]; simp))
    clear hok hRa hRb
    go_wp2_with (first | (refine store_num rfl _ _ rfl rfl w1.heap.size g k p j q rfl rfl false 0 zP 0 zP A zP_len zP_len hp hq ?_; intro w2 hN2 hg2 hs2) | (refine store_num rfl _ _ rfl rfl (w1.heap.size + 1) g' k' p' j' q' rfl rfl false 0 zP 0 zP (RowAt.grown B hg2 (by simp)) zP_len zP_len hp' hq' ?_; intro w3 hN3 hg3 hs3))
    go_ret3
    exact ⟨HI.out, (hB.grown hg2 (by simp; omega) (by intro k hk; cases hk; omega)).grown hg3 (by rw [hs2]; simp; omega) (by intro k hk; cases hk; omega)⟩
end Go.Proofs.YteihephciiifbaaDoor
