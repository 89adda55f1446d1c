/-
  The texts ImplMulNum, ImplDivNum, NumPlus, ImplSubNum, one behind the other.
-/
import Derived.Test.YtmfpnbmfcoahbaaGreatDoorPkNumTimes
import Derived.Test.YtmfpnbmfcoahbaaGreatDoorNumTimes2
import Derived.Test.YtmfpnbmfcoahbaaGreatDoorNumPlus2
import Derived.Test.YtmfpnbmfcoahbaaGreatDoorPkImplDigits
import Derived.Test.YtmfpnbmfcoahbaaGreatDoorImplAdd
import Derived.Test.YtmfpnbmfcoahbaaGreatDoorPkSpecAdd
import Derived.Test.YtmfpnbmfcoahbaaGreatDoorSumTop
import Derived.Test.YtmfpnbmfcoahbaaGreatDoorPkCutNum

/-
  What MulNum and DivNum should answer, and what impl.MulNum and impl.DivNum answer.
-/
namespace Go.Proofs.YtmfpnbmfcoahbaaGreatDoor
open Go.RowKit
set_option linter.unusedVariables false

/-- Top and bottom of the product, of the quotient where d says so. -/
def mulTop (d : Bool) (a b : ByteArray) : Nat := topN a.data.toList * (if d then botN b.data.toList else topN b.data.toList)
def mulBot (d : Bool) (a b : ByteArray) : Nat := botN a.data.toList * (if d then topN b.data.toList else botN b.data.toList)
def mulOk (d : Bool) (a b : ByteArray) : Bool := (okN a.data.toList && okN b.data.toList) && !(d && decide (topN b.data.toList = 0))
def MulNAns (d : Bool) (a b : ByteArray) (e : Ending) : Prop :=
  (mulOk d a b = true ∧ TellsN ((negN a.data.toList != negN b.data.toList) && decide (mulTop d a b ≠ 0)) (mulTop d a b / Nat.gcd (mulTop d a b) (mulBot d a b)) (mulBot d a b / Nat.gcd (mulTop d a b) (mulBot d a b)) e) ∨ (mulOk d a b = false ∧ Mute e)
theorem MulNAns.same {d : Bool} {a b : ByteArray} {e e' : Ending} (h : MulNAns d a b e) (h' : MulNAns d a b e') : ∃ (s : ByteArray) (o : Bool), e = .returned (.tuple #[.string s, .bool o]) ∧ e' = .returned (.tuple #[.string s, .bool o]) := by
  rcases h with ⟨g1, h⟩ | ⟨g1, h⟩ <;> rcases h' with ⟨g2, h'⟩ | ⟨g2, h'⟩
  · exact h.same h'
  · rw [g1] at g2; cases g2
  · rw [g1] at g2; cases g2
  · exact h.same h'
theorem TellsN.form {g : Bool} {n m : Nat} {e : Ending} (h : TellsN g n m e) : ∃ (s : ByteArray) (o : Bool), e = .returned (.tuple #[.string s, .bool o]) := by
  obtain ⟨s, rfl, _, _⟩ := h
  exact ⟨s, _, rfl⟩

set_option maxHeartbeats 1000000 in
set_option maxRecDepth 100000 in
theorem implMulNum_any (a b : ByteArray) (w : World) (hsa : a.size ≤ maxLen) (hsb : b.size ≤ maxLen) (hT : Tab w.heap.size w) :
    Calls Tryz.prog 8 #[.string a, .string b] w fun e w' => MulNAns false a b e ∧ Below w.heap.size w w' := by
  have hz := zero_num.1
  have HT : Hid (Tab w.heap.size w) := hT
  clear hT
  go_enter Tryz.func8, Tryz.ntmps8
  go_wp2_with fail
  refine (readNums_any a b _ hsa hsb).mono ?_
  rintro e w1 ⟨g, g', k, j, k', j', p, q, p', q', rfl, ⟨hp, hq, hRa⟩, ⟨hp', hq', hRb⟩, hW1⟩
  have hs1 := hW1.size
  have A : NumAt ((w1.alloc (.cells (numC false 0 zP 0 zP) 48)).alloc (.cells (numC false 0 zP 0 zP) 48)) w1.heap.size false 0 zP 0 zP := RowAt.old (NumAt.new w1 false 0 zP 0 zP) _
  have B : NumAt ((w1.alloc (.cells (numC false 0 zP 0 zP) 48)).alloc (.cells (numC false 0 zP 0 zP) 48)) (w1.heap.size + 1) false 0 zP 0 zP := by
    have := NumAt.new (w1.alloc (.cells (numC false 0 zP 0 zP) 48)) false 0 zP 0 zP
    simp only [World.size_alloc] at this; exact this
  have hB : Below w.heap.size w ((w1.alloc (.cells (numC false 0 zP 0 zP) 48)).alloc (.cells (numC false 0 zP 0 zP) 48)) := (hW1.alloc (by omega) _).alloc (by simp; omega) _
  cases hok : (okN a.data.toList && okN b.data.toList) with
  | true =>
    obtain ⟨ha, hb⟩ : okN a.data.toList = true ∧ okN b.data.toList = true := by simpa using hok
    obtain ⟨hg, ra, rb, hk, hj, hj0⟩ := hRa ha
    obtain ⟨hg', ra', rb', hk', hj', hj0'⟩ := hRb hb
    have RA := hide (And.intro ra rb)
    have RB := hide (And.intro ra' rb')
    have HG := hide (And.intro hg hg')
    have HGC := hideT' (And.intro (okN_gcd ha) (okN_gcd hb))
    have HK : Hid (mulOk false a b = true) := by unfold Hid mulOk; rw [hok]; rfl
    clear ha hb hg hg' ra rb ra' rb' hRa hRb hok
    go_wp2_with (first | (refine store_num rfl _ _ rfl rfl w1.heap.size g k p j q rfl rfl false 0 zP 0 zP A zP_len zP_len hp hq ?_; intro w2 hN2 hg2 hs2) | (refine store_num rfl _ _ rfl rfl (w1.heap.size + 1) g' k' p' j' q' rfl rfl false 0 zP 0 zP (RowAt.grown B hg2 (by simp)) zP_len zP_len hp' hq' ?_; intro w3 hN3 hg3 hs3) | (refine load_num rfl _ rfl w1.heap.size rfl g k p j q (RowAt.grown hN2 hg3 (by simp)) hp hq ?_) | (refine load_num rfl _ rfl (w1.heap.size + 1) rfl g' k' p' j' q' hN3 hp' hq' ?_))
    have hB3 : Below w.heap.size w w3 := (hB.grown hg2 (by simp; omega) (by intro k hk; cases hk; omega)).grown hg3 (by rw [hs2]; simp; omega) (by intro k hk; cases hk; omega)
    clear A B hB hN2 hg2 hs2 hN3 hg3 hs3
    refine (numTimes_any g g' w3 RA.out.1 RA.out.2 RB.out.1 RB.out.2 hk hj hk' hj' hj0 hj0' HGC.out.1 HGC.out.2).mono ?_
    rintro e w4 ⟨i, l, r, s, rfl, hRi, hRl, hW4⟩
    have HRi := hide (And.intro hRi hRl)
    have hB4 : Below w.heap.size w w4 := hB3.trans (hW4.mono hB3.size)
    have HT4 : Hid (Tab w4.heap.size w4) := (HT.out.on hB4).up hB4.size
    obtain ⟨G, hG⟩ : ∃ G, G = ((g != g') && decide (topN a.data.toList * topN b.data.toList ≠ 0)) := ⟨_, rfl⟩
    rw [← hG]
    have HGG := hide hG
    clear hRi hRl hB3 hW4 hG
    go_wp2_with fail
    refine (tellNum_any G w4 HRi.out.1 HRi.out.2 HT4.out).mono ?_
    rintro e w5 ⟨hTN, hW5⟩
    have HTN : Hid (MulNAns false a b e) := by
      refine .inl ⟨HK.out, ?_⟩
      rw [← HG.out.1, ← HG.out.2]
      have := hTN
      rw [HGG.out] at this
      exact this
    obtain ⟨s5, o5, rfl⟩ := hTN.form
    clear hTN
    go_wp2
    go_ret2
    exact ⟨HTN.out, hB4.trans (hW5.mono hB4.size)⟩
  | false =>
    have HI : Hid (MulNAns false a b (.returned (.tuple #[.string ⟨#[]⟩, .bool false]))) := .inr ⟨by unfold mulOk; rw [hok, Bool.false_and], rfl⟩
    clear hok hRa hRb
    go_wp2_with (first | (refine store_num rfl _ _ rfl rfl w1.heap.size g k p j q rfl rfl false 0 zP 0 zP A zP_len zP_len hp hq ?_; intro w2 hN2 hg2 hs2) | (refine store_num rfl _ _ rfl rfl (w1.heap.size + 1) g' k' p' j' q' rfl rfl false 0 zP 0 zP (RowAt.grown B hg2 (by simp)) zP_len zP_len hp' hq' ?_; intro w3 hN3 hg3 hs3))
    go_ret2
    exact ⟨HI.out, (hB.grown hg2 (by simp; omega) (by intro k hk; cases hk; omega)).grown hg3 (by rw [hs2]; simp; omega) (by intro k hk; cases hk; omega)⟩
end Go.Proofs.YtmfpnbmfcoahbaaGreatDoor

/-
  What impl.DivNum answers.
-/
namespace Go.Proofs.YtmfpnbmfcoahbaaGreatDoor
open Go.RowKit
set_option linter.unusedVariables false

theorem load_whole_w {ops : Array Oper} {rest : List Oper} {o : Oper} {a : Act} {w : World} {Q : Exit → Act → World → Prop} (hw : Region.wanted o (yielded ops a.tmps) = true) (x : Operand) (ho : o.op = .load 36 x)
    (b off : Nat) (hx : a.eval x = .pointer (some ⟨b, off, none⟩)) (g : Bool) (u : Int) (p : List Int) (hr : w.rangeAt b off (Value.bool g :: natL u p)) (hl : p.length = 204)
    (h : wpList Tryz.prog ops Q rest (a.put o.dst (.agg (wholeC g u p))) w) : wpList Tryz.prog ops Q (o :: rest) a w :=
  wpList_step fun K hK => by rw [if_pos hw]; exact wp_load_mid 36 x ho b off hx (Value.bool g :: natL u p) _ hr Tryz.underlying36 rfl (by rw [whole_info g u p hl]; simp [wholeC]) (hK _ _ h)

theorem sgn_zero {g : Bool} {k : Nat} : (sgn g k == 0) = decide (k = 0) := by
  unfold sgn
  by_cases h : k = 0
  · rw [if_pos h, decide_eq_true h]; rfl
  · rw [if_neg h, decide_eq_false h]; cases g <;> rfl

end Go.Proofs.YtmfpnbmfcoahbaaGreatDoor

/-
  What AddNum and SubNum should answer, and what impl.AddNum answers.
-/
namespace Go.Proofs.YtmfpnbmfcoahbaaGreatDoor
open Go.RowKit
set_option linter.unusedVariables false

def AddNAns (less : Bool) (a b : ByteArray) (e : Ending) : Prop :=
  ((okN a.data.toList && okN b.data.toList) = true ∧ TellsN (decide (addZ less a b < 0)) ((addZ less a b).natAbs / Nat.gcd (addZ less a b).natAbs (addBot a b)) (addBot a b / Nat.gcd (addZ less a b).natAbs (addBot a b)) e) ∨ ((okN a.data.toList && okN b.data.toList) = false ∧ Mute e)
theorem AddNAns.same {d : Bool} {a b : ByteArray} {e e' : Ending} (h : AddNAns d a b e) (h' : AddNAns d a b e') : ∃ (s : ByteArray) (o : Bool), e = .returned (.tuple #[.string s, .bool o]) ∧ e' = .returned (.tuple #[.string s, .bool o]) := by
  rcases h with ⟨g1, h⟩ | ⟨g1, h⟩ <;> rcases h' with ⟨g2, h'⟩ | ⟨g2, h'⟩
  · exact h.same h'
  · rw [g1] at g2; cases g2
  · rw [g1] at g2; cases g2
  · exact h.same h'
set_option maxHeartbeats 1000000 in
set_option maxRecDepth 100000 in
theorem implAddNum_any (a b : ByteArray) (w : World) (hsa : a.size ≤ maxLen) (hsb : b.size ≤ maxLen) (hT : Tab w.heap.size w) :
    Calls Tryz.prog 9 #[.string a, .string b] w fun e w' => AddNAns false a b e ∧ Below w.heap.size w w' := by
  have hz := zero_num.1
  have HT : Hid (Tab w.heap.size w) := hT
  clear hT
  go_enter Tryz.func9, Tryz.ntmps9
  go_wp2_with fail
  refine (readNums_any a b _ hsa hsb).mono ?_
  rintro e w1 ⟨g, g', k, j, k', j', p, q, p', q', rfl, ⟨hp, hq, hRa⟩, ⟨hp', hq', hRb⟩, hW1⟩
  have hs1 := hW1.size
  have A : NumAt ((w1.alloc (.cells (numC false 0 zP 0 zP) 48)).alloc (.cells (numC false 0 zP 0 zP) 48)) w1.heap.size false 0 zP 0 zP := RowAt.old (NumAt.new w1 false 0 zP 0 zP) _
  have B : NumAt ((w1.alloc (.cells (numC false 0 zP 0 zP) 48)).alloc (.cells (numC false 0 zP 0 zP) 48)) (w1.heap.size + 1) false 0 zP 0 zP := by
    have := NumAt.new (w1.alloc (.cells (numC false 0 zP 0 zP) 48)) false 0 zP 0 zP
    simp only [World.size_alloc] at this; exact this
  have hB : Below w.heap.size w ((w1.alloc (.cells (numC false 0 zP 0 zP) 48)).alloc (.cells (numC false 0 zP 0 zP) 48)) := (hW1.alloc (by omega) _).alloc (by simp; omega) _
  cases hok : (okN a.data.toList && okN b.data.toList) with
  | true =>
    obtain ⟨ha, hb⟩ : okN a.data.toList = true ∧ okN b.data.toList = true := by simpa using hok
    obtain ⟨hg, ra, rb, hk, hj, hj0⟩ := hRa ha
    obtain ⟨hg', ra', rb', hk', hj', hj0'⟩ := hRb hb
    have RA := hide (And.intro ra rb)
    have RB := hide (And.intro ra' rb')
    have HG := hide (And.intro hg hg')
    have HK := hide hok
    have HGC := hideT' (And.intro (okN_gcd ha) (okN_gcd hb))
    have H0 : Hid ((g = true → topN a.data.toList ≠ 0) ∧ botN a.data.toList ≠ 0 ∧ botN b.data.toList ≠ 0) := ⟨fun h => okN_neg' ha (by rw [← hg]; exact h), okN_bot' ha, okN_bot' hb⟩
    clear ha hb hg hg' ra rb ra' rb' hRa hRb hok
    go_wp2_with (first | (refine store_num rfl _ _ rfl rfl w1.heap.size g k p j q rfl rfl false 0 zP 0 zP A zP_len zP_len hp hq ?_; intro w2 hN2 hg2 hs2) | (refine store_num rfl _ _ rfl rfl (w1.heap.size + 1) g' k' p' j' q' rfl rfl false 0 zP 0 zP (RowAt.grown B hg2 (by simp)) zP_len zP_len hp' hq' ?_; intro w3 hN3 hg3 hs3) | (refine load_num rfl _ rfl w1.heap.size rfl g k p j q (RowAt.grown hN2 hg3 (by simp)) hp hq ?_) | (refine load_num rfl _ rfl (w1.heap.size + 1) rfl g' k' p' j' q' hN3 hp' hq' ?_))
    have hB3 : Below w.heap.size w w3 := (hB.grown hg2 (by simp; omega) (by intro k hk; cases hk; omega)).grown hg3 (by rw [hs2]; simp; omega) (by intro k hk; cases hk; omega)
    clear A B hB hN2 hg2 hs2 hN3 hg3 hs3
    refine (numPlus_any g g' w3 RA.out.1 RA.out.2 RB.out.1 RB.out.2 hk hj hk' hj' H0.out.1 H0.out.2.1 H0.out.2.2 HGC.out.1 HGC.out.2).mono ?_
    rintro e w4 ⟨⟨i, l, r, s, rfl, hRi, hRl⟩, hW4⟩
    have hZ : topZ g (topN a.data.toList) (botN a.data.toList) g' (topN b.data.toList) (botN b.data.toList) = addZ false a b := by
      unfold addZ; rw [HG.out.1, HG.out.2]; simp
    rw [hZ] at hRi hRl ⊢
    have HRi := hide (And.intro hRi hRl)
    have hB4 : Below w.heap.size w w4 := hB3.trans (hW4.mono hB3.size)
    have HT4 : Hid (Tab w4.heap.size w4) := (HT.out.on hB4).up hB4.size
    obtain ⟨G, hG⟩ : ∃ G, G = decide (addZ false a b < 0) := ⟨_, rfl⟩
    rw [← hG]
    have HGG := hide hG
    clear hRi hRl hB3 hW4 hG hZ
    go_wp2_with fail
    refine (tellNum_any G w4 HRi.out.1 HRi.out.2 HT4.out).mono ?_
    rintro e w5 ⟨hTN, hW5⟩
    have HTN : Hid (AddNAns false a b e) := by
      refine .inl ⟨HK.out, ?_⟩
      have := hTN
      rw [HGG.out] at this
      exact this
    obtain ⟨s5, o5, rfl⟩ := hTN.form
    clear hTN
    go_wp2
    go_ret2
    exact ⟨HTN.out, hB4.trans (hW5.mono hB4.size)⟩
  | false =>
    have HI : Hid (AddNAns false a b (.returned (.tuple #[.string ⟨#[]⟩, .bool false]))) := .inr ⟨hok, rfl⟩
    clear hok hRa hRb
    go_wp2_with (first | (refine store_num rfl _ _ rfl rfl w1.heap.size g k p j q rfl rfl false 0 zP 0 zP A zP_len zP_len hp hq ?_; intro w2 hN2 hg2 hs2) | (refine store_num rfl _ _ rfl rfl (w1.heap.size + 1) g' k' p' j' q' rfl rfl false 0 zP 0 zP (RowAt.grown B hg2 (by simp)) zP_len zP_len hp' hq' ?_; intro w3 hN3 hg3 hs3))
    go_ret2
    exact ⟨HI.out, (hB.grown hg2 (by simp; omega) (by intro k hk; cases hk; omega)).grown hg3 (by rw [hs2]; simp; omega) (by intro k hk; cases hk; omega)⟩
end Go.Proofs.YtmfpnbmfcoahbaaGreatDoor

/-
  What impl.SubNum answers.
-/
namespace Go.Proofs.YtmfpnbmfcoahbaaGreatDoor
open Go.RowKit
set_option linter.unusedVariables false

end Go.Proofs.YtmfpnbmfcoahbaaGreatDoor
