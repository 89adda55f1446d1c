/-
  The texts ImplNumT, ImplQuo, one behind the other.
-/
import Derived.Test.YtohgdmebddinhaaDoorPkReadNumA
import Derived.Test.YtohgdmebddinhaaDoorWholeDiv
import Derived.Test.YtohgdmebddinhaaDoorPkSpecParts
import Derived.Test.YtohgdmebddinhaaDoorPkImplDigits
import Derived.Test.YtohgdmebddinhaaDoorPkSpecSub
import Derived.Test.YtohgdmebddinhaaDoorImplAdd
import Derived.Test.YtohgdmebddinhaaDoorPkSpecAdd
import Derived.Test.YtohgdmebddinhaaDoorPkImplMulNum
import Derived.Test.YtohgdmebddinhaaDoorPkSpecReadNum

/-
  What impl.NumText and spec.NumText answer.
-/
namespace Go.Proofs.YtohgdmebddinhaaDoor
open Go.RowKit
set_option linter.unusedVariables false

/-- What NumText should answer. -/
def NumTAns (a : ByteArray) (r : Int) (e : Ending) : Prop :=
  ((okN a.data.toList && radOk r) = true ∧ ∃ s : ByteArray, e = .returned (.tuple #[.string s, .bool true]) ∧ NumR r.toNat (negN a.data.toList) (topN a.data.toList) (botN a.data.toList) s) ∨ ((okN a.data.toList && radOk r) = false ∧ Mute e)

theorem NumTAns.same {a : ByteArray} {r : Int} {e e' : Ending} (h : NumTAns a r e) (h' : NumTAns a r e') : ∃ (s : ByteArray) (o : Bool), e = .returned (.tuple #[.string s, .bool o]) ∧ e' = .returned (.tuple #[.string s, .bool o]) := by
  rcases h with ⟨g1, s, rfl, h⟩ | ⟨g1, h⟩ <;> rcases h' with ⟨g2, t, rfl, h'⟩ | ⟨g2, h'⟩
  · obtain rfl := h.inj h'
    exact ⟨s, true, rfl, rfl⟩
  · rw [g1] at g2; cases g2
  · rw [g1] at g2; cases g2
  · exact h.same h'

theorem rad_nat2 {r : Int} (h : radOk r = true) : r = (r.toNat : Int) ∧ 2 ≤ r ∧ r ≤ 16 := by
  have := (radOk_iff r).1 h
  exact ⟨by omega, by omega, by omega⟩

theorem InRad.one {b : Nat} (hb : 2 ≤ b) : InRad b 1 ⟨#[49]⟩ := by
  refine ⟨1, ⟨Nat.le_refl _, by rw [Nat.pow_one]; exact Nat.div_eq_of_lt (by omega), fun i h1 h2 => by omega⟩, ?_⟩
  have : digs b 1 1 = [hx 1] := by
    rw [show (1 : Nat) = 0 + 1 from rfl, digs_snoc, Nat.pow_zero, Nat.div_one, Nat.mod_eq_of_lt (by omega)]; rfl
  rw [this]; rfl
theorem good_small {s : ByteArray} (h : goodB s.data.toList = true) : s.size ≤ 600 := by have := good_len h; simpa using this

end Go.Proofs.YtohgdmebddinhaaDoor

/-
  What QuotientNum should answer, and what impl.QuotientNum answers.
-/
namespace Go.Proofs.YtohgdmebddinhaaDoor
open Go.RowKit
set_option linter.unusedVariables false

def wholeOk (l : List UInt8) : Bool := okN l && decide (botN l = 1)
def quoOk (a b : ByteArray) : Bool := (wholeOk a.data.toList && wholeOk b.data.toList) && decide (topN b.data.toList ≠ 0)
def Mute3 (e : Ending) : Prop := e = .returned (.tuple #[.string ⟨#[]⟩, .string ⟨#[]⟩, .bool false])
def QuoR (a b : ByteArray) (s t : ByteArray) : Prop :=
  NumR 10 ((negN a.data.toList != negN b.data.toList) && decide (topN a.data.toList / topN b.data.toList ≠ 0)) (topN a.data.toList / topN b.data.toList) 1 s ∧
  NumR 10 (negN a.data.toList && decide (topN a.data.toList % topN b.data.toList ≠ 0)) (topN a.data.toList % topN b.data.toList) 1 t
def QuoAns (a b : ByteArray) (e : Ending) : Prop :=
  (quoOk a b = true ∧ ∃ s t : ByteArray, e = .returned (.tuple #[.string s, .string t, .bool true]) ∧ QuoR a b s t) ∨ (quoOk a b = false ∧ Mute3 e)
theorem QuoAns.same {a b : ByteArray} {e e' : Ending} (h : QuoAns a b e) (h' : QuoAns a b e') : ∃ (s t : ByteArray) (o : Bool), e = .returned (.tuple #[.string s, .string t, .bool o]) ∧ e' = .returned (.tuple #[.string s, .string t, .bool o]) := by
  rcases h with ⟨g1, s, t, rfl, h⟩ | ⟨g1, h⟩ <;> rcases h' with ⟨g2, s', t', rfl, h'⟩ | ⟨g2, h'⟩
  · obtain rfl := h.1.inj h'.1
    obtain rfl := h.2.inj h'.2
    exact ⟨s, t, true, rfl, rfl⟩
  · rw [g1] at g2; cases g2
  · rw [g1] at g2; cases g2
  · exact ⟨_, _, _, h, h'⟩
theorem whole_num {g : Bool} {n : Nat} {s : ByteArray} (h : WholeR 10 g n s) : NumR 10 g n 1 s := by
  obtain ⟨t, ht, hs⟩ := h
  exact ⟨t, ⟨#[49]⟩, ht, InRad.dec one_canon.1 one_canon.2, by rw [hs, if_pos rfl, List.append_nil]⟩
theorem used_ne {n k : Nat} {p : List Int} (h : Rep n k p) : decide (0 < k) = decide (n ≠ 0) := by
  have h := h.zero_iff
  by_cases e : k = 0
  · rw [decide_eq_false (by omega), decide_eq_false (by have := h.1 e; omega)]
  · rw [decide_eq_true (by omega), decide_eq_true (show n ≠ 0 from fun e' => e (h.2 e'))]

set_option maxHeartbeats 2000000 in
set_option maxRecDepth 100000 in
theorem implQuo_any (a b : ByteArray) (w : World) (hsa : a.size ≤ maxLen) (hsb : b.size ≤ maxLen) (hT : Tab w.heap.size w) :
    Calls Tryd.prog 17 #[.string a, .string b] w fun e w' => QuoAns a b e ∧ Below w.heap.size w w' := by
  have hz := zero_num.1
  have hz0 := zero_nat.1
  have hzw := zero_whole.1
  have HT : Hid (Tab w.heap.size w) := hT
  clear hT
  go_enter Tryd.func17, Tryd.ntmps17
  go_wp2_with fail
  refine (readNums_any a b _ hsa hsb).mono ?_
  rintro e w1 ⟨g, g', k, j, k', j', p, q, p', q', rfl, ⟨hp, hq, hRa⟩, ⟨hp', hq', hRb⟩, hW1⟩
  have hs1 := hW1.size
  have A : NumAt ((w1.alloc (.cells (numC false 0 zP 0 zP) 34)).alloc (.cells (numC false 0 zP 0 zP) 34)) w1.heap.size false 0 zP 0 zP := RowAt.old (NumAt.new w1 false 0 zP 0 zP) _
  have B : NumAt ((w1.alloc (.cells (numC false 0 zP 0 zP) 34)).alloc (.cells (numC false 0 zP 0 zP) 34)) (w1.heap.size + 1) false 0 zP 0 zP := by
    have := NumAt.new (w1.alloc (.cells (numC false 0 zP 0 zP) 34)) false 0 zP 0 zP
    simp only [World.size_alloc] at this; exact this
  have hB : Below w.heap.size w ((w1.alloc (.cells (numC false 0 zP 0 zP) 34)).alloc (.cells (numC false 0 zP 0 zP) 34)) := (hW1.alloc (by omega) _).alloc (by simp; omega) _
  have NO : Hid (quoOk a b = false → QuoAns a b (.returned (.tuple #[.string ⟨#[]⟩, .string ⟨#[]⟩, .bool false]))) := fun h => .inr ⟨h, rfl⟩
  cases hok : (okN a.data.toList && okN b.data.toList) with
  | true =>
    obtain ⟨ha, hb⟩ : okN a.data.toList = true ∧ okN b.data.toList = true := by simpa using hok
    obtain ⟨hg, ra, rb, hk, hj, hj0⟩ := hRa ha
    obtain ⟨hg', ra', rb', hk', hj', hj0'⟩ := hRb hb
    have RA := hide (And.intro ra rb)
    have RB := hide (And.intro ra' rb')
    have HG := hide (And.intro hg hg')
    have HOK := hide (And.intro ha hb)
    clear ha hb hg hg' ra rb ra' rb' hRa hRb hok
    go_wp2_with (first | (refine store_num rfl _ _ rfl rfl w1.heap.size g k p j q rfl rfl false 0 zP 0 zP A zP_len zP_len hp hq ?_; intro w2 hN2 hg2 hs2) | (refine store_num rfl _ _ rfl rfl (w1.heap.size + 1) g' k' p' j' q' rfl rfl false 0 zP 0 zP (RowAt.grown B hg2 (by simp)) zP_len zP_len hp' hq' ?_; intro w3 hN3 hg3 hs3) | (refine load_num_w rfl _ rfl w1.heap.size rfl g k p j q (RowAt.grown hN2 hg3 (by simp)) hp hq ?_))
    have hs3' : w3.heap.size = w1.heap.size + 1 + 1 := by rw [hs3, hs2]; simp
    have M3 : NumAt w3 w1.heap.size g k p j q := RowAt.grown hN2 hg3 (by simp)
    have hB3 : Below w.heap.size w w3 := (hB.grown hg2 (by simp; omega) (by intro k hk; cases hk; omega)).grown hg3 (by rw [hs2]; simp; omega) (by intro k hk; cases hk; omega)
    clear A B hB hN2 hg2 hs2 hg3 hs3
    refine (isWhole_any (n := 0) g w3 hp RA.out.2).mono ?_
    rintro e w4 ⟨rfl, hW4⟩
    have M4 : NumAt w4 w1.heap.size g k p j q := RowAt.below M3 hW4 (by omega)
    have N4 : NumAt w4 (w1.heap.size + 1) g' k' p' j' q' := RowAt.below hN3 hW4 (by omega)
    have hs4 := hW4.size
    have hB4 : Below w.heap.size w w4 := hB3.trans (hW4.mono hB3.size)
    clear M3 hN3 hB3 hW4
    by_cases hwa : botN a.data.toList = 1
    · rw [decide_eq_true hwa]
      have HWA := hide hwa
      clear hwa
      go_wp2_with (refine load_num_w rfl _ rfl (w1.heap.size + 1) rfl g' k' p' j' q' N4 hp' hq' ?_)
      refine (isWhole_any (n := 0) g' w4 hp' RB.out.2).mono ?_
      rintro e w5 ⟨rfl, hW5⟩
      have M5 : NumAt w5 w1.heap.size g k p j q := RowAt.below M4 hW5 (by omega)
      have N5 : NumAt w5 (w1.heap.size + 1) g' k' p' j' q' := RowAt.below N4 hW5 (by omega)
      have hs5 := hW5.size
      have hB5 : Below w.heap.size w w5 := hB4.trans (hW5.mono hB4.size)
      clear M4 N4 hB4 hW5
      by_cases hwb : botN b.data.toList = 1
      · rw [decide_eq_true hwb]
        have HWB := hide hwb
        clear hwb
        go_wp2_with (refine load_whole_w rfl _ rfl (w1.heap.size + 1) 0 rfl g' k' p' N5.whole hp' ?_)
        refine (sign_any g' w5).mono ?_
        rintro e w6 ⟨rfl, hW6⟩
        have M6 : NumAt w6 w1.heap.size g k p j q := RowAt.below M5 hW6 (by omega)
        have N6 : NumAt w6 (w1.heap.size + 1) g' k' p' j' q' := RowAt.below N5 hW6 (by omega)
        have hs6 := hW6.size
        have hB6 : Below w.heap.size w w6 := hB5.trans (hW6.mono hB5.size)
        clear M5 N5 hB5 hW6
        by_cases hk0 : k' = 0
        · have HI := hide (NO.out (by unfold quoOk; rw [RB.out.1.zero_iff.1 hk0]; simp))
          have hs0 : (sgn g' k' == 0) = true := by rw [sgn_zero]; exact decide_eq_true hk0
          clear hk0
          go_wp2
          go_ret3
          exact ⟨HI.out, hB6⟩
        · have HK : Hid (quoOk a b = true) := by
            unfold Hid quoOk wholeOk
            rw [HOK.out.1, HOK.out.2, HWA.out, HWB.out, decide_eq_true (show topN b.data.toList ≠ 0 from fun e => hk0 (RB.out.1.zero_iff.2 e))]; rfl
          have hs0 : (sgn g' k' == 0) = false := by rw [sgn_zero]; exact decide_eq_false hk0
          go_wp2_with (first | (refine load_whole_w rfl _ rfl w1.heap.size 0 rfl g k p M6.whole hp ?_) | (refine load_whole_w rfl _ rfl (w1.heap.size + 1) 0 rfl g' k' p' N6.whole hp' ?_))
          refine (wholeDivide_any g g' w6 RA.out.1 RB.out.1 (by omega) (Nat.pos_of_ne_zero hk0)).mono ?_
          rintro e w7 ⟨⟨i, l, r, s, rfl, hR1, hR2⟩, hW7⟩
          have hr := hR1.len
          have hs := hR2.len
          have hi : i ≤ 100 := by have := hR1.cnt_le RA.out.1 (Nat.div_le_self _ _); omega
          have hl : l ≤ 100 := by have := hR2.cnt_le RA.out.1 (Nat.mod_le _ _); omega
          have HU := hide (And.intro (used_ne hR1) (used_ne hR2))
          have HR := hide (And.intro hR1 hR2)
          have hs7 := hW7.size
          have hB7 : Below w.heap.size w w7 := hB6.trans (hW7.mono hB6.size)
          have F1 : WholeAt ((w7.alloc (.cells (wholeC false 0 zP) 32)).alloc (.cells (wholeC false 0 zP) 32)) w7.heap.size false 0 zP := RowAt.old (WholeAt.new w7 false 0 zP) (.cells (wholeC false 0 zP) 32)
          have F2 : WholeAt ((w7.alloc (.cells (wholeC false 0 zP) 32)).alloc (.cells (wholeC false 0 zP) 32)) (w7.heap.size + 1) false 0 zP := by
            have := WholeAt.new (w7.alloc (.cells (wholeC false 0 zP) 32)) false 0 zP
            simp only [World.size_alloc] at this; exact this
          obtain ⟨G, hG⟩ : ∃ G, G = ((g != g') && decide (0 < i)) := ⟨_, rfl⟩
          obtain ⟨H, hH⟩ : ∃ H, H = (g && decide (0 < l)) := ⟨_, rfl⟩
          rw [← hG, ← hH]
          have HGH := hideT' (And.intro hG hH)
          clear M6 N6 hB6 hW7 hR1 hR2 hs0 hk0 hG hH
          go_wp2_with (first | (refine store_whole rfl _ _ rfl rfl w7.heap.size G i r rfl rfl false 0 zP F1 zP_len hr ?_; intro w8 hN8 hg8 hs8) | (refine store_whole rfl _ _ rfl rfl (w7.heap.size + 1) H l s rfl rfl false 0 zP (RowAt.grown F2 hg8 (by simp)) zP_len hs ?_; intro w9 hN9 hg9 hs9))
          have hs9' : w9.heap.size = w7.heap.size + 1 + 1 := by rw [hs9, hs8]; simp
          have K9 : WholeAt w9 w7.heap.size G i r := RowAt.grown hN8 hg9 (by simp)
          have hB9 : Below w.heap.size w w9 := (((hB7.alloc (by omega) _).alloc (by simp; omega) _).grown hg8 (by simp; omega) (by intro k hk; cases hk; omega)).grown hg9 (by rw [hs8]; simp; omega) (by intro k hk; cases hk; omega)
          have HT9 : Hid (Tab w9.heap.size w9) := (HT.out.on hB9).up hB9.size
          clear hB7 F1 F2 hN8 hg8 hs8 hg9 hs9
          refine held_begin (fun w' => WholeAt w' w7.heap.size G i r ∧ WholeAt w' (w7.heap.size + 1) H l s) (by kernel_rfl) ?_
          have hS : WholeAt w9.drew w7.heap.size G i r ∧ WholeAt w9.drew (w7.heap.size + 1) H l s := ⟨K9, hN9⟩
          refine held_valS 0 (some 45) rfl rfl (by kernel_rfl) (by kernel_rfl) (by kernel_rfl) noPanic_put rfl (.agg (wholeC G i r)) (fun _ h => run_row_whole _ rfl w7.heap.size rfl G i r h.1 hr) hS ?_
          simp only [Act.put, List.setIfInBounds_toArray, List.set_cons_zero, List.set_cons_succ]
          refine held_valS 2 (some 47) rfl rfl (by kernel_rfl) (by kernel_rfl) (by kernel_rfl) noPanic_put rfl (.agg (wholeC H l s)) (fun _ h => run_row_whole _ rfl (w7.heap.size + 1) rfl H l s h.2 hs) hS ?_
          simp only [Act.put, List.setIfInBounds_toArray, List.set_cons_zero, List.set_cons_succ]
          refine held_call 1 (some 46) (by kernel_rfl) rfl rfl rfl 31 #[.agg (wholeC G i r), .int .i64 10] (by go_simp) _ (wholeText_any G 10 10 w9.drew HR.out.1 hi rfl (by omega) (by omega) (HT9.out.on ((Below.refl w9.heap.size w9).drew))) ?_
          rintro e w10 ⟨s1, rfl, hX1, hW10⟩
          have hW10 : Below w9.heap.size w9 w10 := ⟨hW10.os, hW10.tape, hW10.output, hW10.size, hW10.block⟩
          have HX1 := hide (whole_num hX1)
          have hs10 := hW10.size
          have S10 : WholeAt w10 w7.heap.size G i r ∧ WholeAt w10 (w7.heap.size + 1) H l s := ⟨RowAt.below K9 hW10 (by omega), RowAt.below hN9 hW10 (by omega)⟩
          have hB10 : Below w.heap.size w w10 := hB9.trans (hW10.mono hB9.size)
          have HT10 : Hid (Tab w10.heap.size w10) := (HT.out.on hB10).up hB10.size
          clear hX1 hS K9 hN9 hB9 hW10
          refine ⟨_, rfl, S10, ?_⟩
          simp only [Act.put, List.setIfInBounds_toArray, List.set_cons_zero, List.set_cons_succ]
          refine held_call 3 (some 48) (by kernel_rfl) rfl rfl rfl 31 #[.agg (wholeC H l s), .int .i64 10] (by go_simp) _ (wholeText_any H 10 10 w10 HR.out.2 hl rfl (by omega) (by omega) HT10.out) ?_
          rintro e w11 ⟨s2, rfl, hX2, hW11⟩
          have HI : Hid (QuoAns a b (.returned (.tuple #[.string s1, .string s2, .bool true]))) := by
            refine .inl ⟨HK.out, s1, s2, rfl, ?_⟩
            have h1 := HX1.out
            have h2 := whole_num hX2
            rw [HGH.out.1, HU.out.1, HG.out.1, HG.out.2] at h1
            rw [HGH.out.2, HU.out.2, HG.out.1] at h2
            exact ⟨h1, h2⟩
          have hs11 := hW11.size
          have S11 : WholeAt w11 w7.heap.size G i r ∧ WholeAt w11 (w7.heap.size + 1) H l s := ⟨RowAt.below S10.1 hW11 (by omega), RowAt.below S10.2 hW11 (by omega)⟩
          have hB11 : Below w.heap.size w w11 := hB10.trans (hW11.mono hB10.size)
          clear hX2 S10 hB10 hW11
          refine ⟨_, rfl, S11, ?_⟩
          simp only [Act.put, List.setIfInBounds_toArray, List.set_cons_zero, List.set_cons_succ]
          refine held_assign 4 (some 4) (by kernel_rfl) rfl rfl _ rfl rfl (.string s1) rfl S11 ?_
          simp only [Act.put, List.setIfInBounds_toArray, List.set_cons_zero, List.set_cons_succ]
          refine held_assign 5 (some 5) (by kernel_rfl) rfl rfl _ rfl rfl (.string s2) rfl S11 ?_
          simp only [Act.put, List.setIfInBounds_toArray, List.set_cons_zero, List.set_cons_succ]
          refine held_assign 6 (some 6) (by kernel_rfl) rfl rfl _ rfl rfl (.bool true) rfl S11 ?_
          simp only [Act.put, List.setIfInBounds_toArray, List.set_cons_zero, List.set_cons_succ]
          refine wpAnyH_done (by kernel_rfl) ?_ _
          refine NoPanic.normal ?_
          go_wp2
          go_ret3
          exact ⟨HI.out, hB11⟩
      · rw [decide_eq_false hwb]
        have HI := hide (NO.out (by unfold quoOk wholeOk; rw [decide_eq_false hwb]; simp))
        clear hwb
        go_wp2
        go_ret3
        exact ⟨HI.out, hB5⟩
    · rw [decide_eq_false hwa]
      have HI := hide (NO.out (by unfold quoOk wholeOk; rw [decide_eq_false hwa]; simp))
      clear hwa
      go_wp2
      go_ret3
      exact ⟨HI.out, hB4⟩
  | false =>
    have HI := hide (NO.out (by
      unfold quoOk wholeOk
      rcases Bool.and_eq_false_iff.1 hok with h | h
      · rw [h]; simp
      · rw [h]; simp))
    clear hok hRa hRb
    go_wp2_with (first | (refine store_num rfl _ _ rfl rfl w1.heap.size g k p j q rfl rfl false 0 zP 0 zP A zP_len zP_len hp hq ?_; intro w2 hN2 hg2 hs2) | (refine store_num rfl _ _ rfl rfl (w1.heap.size + 1) g' k' p' j' q' rfl rfl false 0 zP 0 zP (RowAt.grown B hg2 (by simp)) zP_len zP_len hp' hq' ?_; intro w3 hN3 hg3 hs3))
    go_ret3
    exact ⟨HI.out, (hB.grown hg2 (by simp; omega) (by intro k hk; cases hk; omega)).grown hg3 (by rw [hs2]; simp; omega) (by intro k hk; cases hk; omega)⟩
end Go.Proofs.YtohgdmebddinhaaDoor
