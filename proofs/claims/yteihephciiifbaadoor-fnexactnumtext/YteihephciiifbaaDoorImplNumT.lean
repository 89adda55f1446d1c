/-
  What impl.NumText and spec.NumText answer.
-/
import Derived.Test.YteihephciiifbaaDoorReadNum
import Derived.Test.YteihephciiifbaaDoorSpecParts
import Derived.Test.YteihephciiifbaaDoorNumText
import Derived.Test.YteihephciiifbaaDoorSpecToRadix
import Derived.Test.YteihephciiifbaaDoorImplAdd
import Derived.Test.YteihephciiifbaaDoorAns
namespace Go.Proofs.YteihephciiifbaaDoor
open Go.RowKit
set_option linter.unusedVariables false

/-- What NumText should answer. -/
def NumTAns (a : ByteArray) (r : Int) (e : Ending) : Prop :=
  ((okN a.data.toList && radOk r) = true ∧ ∃ s : ByteArray, e = .returned (.tuple #[.string s, .bool true]) ∧ NumR r.toNat (negN a.data.toList) (topN a.data.toList) (botN a.data.toList) s) ∨ ((okN a.data.toList && radOk r) = false ∧ Mute e)

theorem NumTAns.same {a : ByteArray} {r : Int} {e e' : Ending} (h : NumTAns a r e) (h' : NumTAns a r e') : ∃ (s : ByteArray) (o : Bool), e = .returned (.tuple #[.string s, .bool o]) ∧ e' = .returned (.tuple #[.string s, .bool o]) := by
  rcases h with ⟨g1, s, rfl, h⟩ | ⟨g1, h⟩ <;> rcases h' with ⟨g2, t, rfl, h'⟩ | ⟨g2, h'⟩
  · obtain rfl := h.inj h'
    exact ⟨s, true, rfl, rfl⟩
  · rw [g1] at g2; cases g2
  · rw [g1] at g2; cases g2
  · exact h.same h'

theorem rad_nat2 {r : Int} (h : radOk r = true) : r = (r.toNat : Int) ∧ 2 ≤ r ∧ r ≤ 16 := by
  have := (radOk_iff r).1 h
  exact ⟨by omega, by omega, by omega⟩

set_option maxHeartbeats 1000000 in
set_option maxRecDepth 100000 in
theorem implNumText_any (a : ByteArray) (r : Int) (w : World) (hsa : a.size ≤ maxLen) (hT : Tab w.heap.size w) :
    Calls Tryd.prog 29 #[.string a, .int .i64 r] w fun e w' => NumTAns a r e ∧ Below w.heap.size w w' := by
  have hz := zero_num.1
  have HT : Hid (Tab w.heap.size w) := hT
  clear hT
  go_enter Tryd.func29, Tryd.ntmps29
  go_wp2_with fail
  refine (readNum_any a _ hsa).mono ?_
  rintro e w1 ⟨⟨g, k, j, p, q, rfl, hp, hq, hR⟩, hW1⟩
  have hs1 := hW1.size
  have A := NumAt.new w1 false 0 zP 0 zP
  have hB : Below w.heap.size w (w1.alloc (.cells (numC false 0 zP 0 zP) 42)) := hW1.alloc (by omega) _
  cases hok : okN a.data.toList with
  | true =>
    obtain ⟨hg, ra, rb, hk, hj, hj0⟩ := hR hok
    have RA := hideT (And.intro ra rb)
    have HG := hideT (And.intro hok hg)
    clear hg ra rb hR hok
    go_wp2_with (refine store_num rfl _ _ rfl rfl w1.heap.size g k p j q rfl rfl false 0 zP 0 zP A zP_len zP_len hp hq ?_; intro w2 hN2 hg2 hs2)
    refine (goodRadix_any r _).mono ?_
    rintro e w3 ⟨rfl, rfl⟩
    have hB2 : Below w.heap.size w w3 := hB.grown hg2 (by simp; omega) (by intro k hk; cases hk; omega)
    have HT2 : Hid (Tab w3.heap.size w3) := (HT.out.on hB2).up hB2.size
    cases hr : radOk r with
    | true =>
      obtain ⟨hr1, hr2, hr3⟩ := rad_nat2 hr
      have HR := hideT hr1
      have HOK : Hid ((okN a.data.toList && radOk r) = true) := by unfold Hid; rw [HG.out.1, hr]; rfl
      clear hr hr1
      go_wp2_with (refine load_num rfl _ rfl w1.heap.size rfl g k p j q hN2 hp hq ?_)
      refine (numText_any g r.toNat r w3 RA.out.1 RA.out.2 hk hj HR.out hr2 hr3 HT2.out).mono ?_
      rintro e w4 ⟨s, rfl, hI, hW4⟩
      have HI : Hid (NumTAns a r (.returned (.tuple #[.string s, .bool true]))) := .inl ⟨HOK.out, s, rfl, by rw [← HG.out.2]; exact hI⟩
      clear hI
      go_wp2
      go_ret2
      exact ⟨HI.out, hB2.trans (hW4.mono hB2.size)⟩
    | false =>
      have HI : Hid (NumTAns a r (.returned (.tuple #[.string ⟨#[]⟩, .bool false]))) := .inr ⟨by rw [hr, Bool.and_false], rfl⟩
      clear hr
      go_wp2
      go_ret2
      exact ⟨HI.out, hB2⟩
  | false =>
    have HI : Hid (NumTAns a r (.returned (.tuple #[.string ⟨#[]⟩, .bool false]))) := .inr ⟨by rw [hok, Bool.false_and], rfl⟩
    clear hok hR
    go_wp2_with (refine store_num rfl _ _ rfl rfl w1.heap.size g k p j q rfl rfl false 0 zP 0 zP A zP_len zP_len hp hq ?_; intro w2 hN2 hg2 hs2)
    go_ret2
    exact ⟨HI.out, hB.grown hg2 (by simp; omega) (by intro k hk; cases hk; omega)⟩

theorem InRad.one {b : Nat} (hb : 2 ≤ b) : InRad b 1 ⟨#[49]⟩ := by
  refine ⟨1, ⟨Nat.le_refl _, by rw [Nat.pow_one]; exact Nat.div_eq_of_lt (by omega), fun i h1 h2 => by omega⟩, ?_⟩
  have : digs b 1 1 = [hx 1] := by
    rw [show (1 : Nat) = 0 + 1 from rfl, digs_snoc, Nat.pow_zero, Nat.div_one, Nat.mod_eq_of_lt (by omega)]; rfl
  rw [this]; rfl
theorem good_small {s : ByteArray} (h : goodB s.data.toList = true) : s.size ≤ 600 := by have := good_len h; simpa using this

set_option maxHeartbeats 1000000 in
set_option maxRecDepth 100000 in
theorem specNumText_any (a : ByteArray) (r : Int) (w : World) (hsa : a.size ≤ maxLen) :
    Calls Tryd.prog 28 #[.string a, .int .i64 r] w fun e w' => NumTAns a r e ∧ Below w.heap.size w w' := by
  go_enter Tryd.func28, Tryd.ntmps28
  go_wp2_with fail
  refine (l2Parts_any a _ hsa).mono ?_
  rintro e w1 ⟨⟨g, t, u, rfl, hR⟩, hW1⟩
  cases hok : okN a.data.toList with
  | true =>
    obtain ⟨hg, g1, v1, g2, v2⟩ := hR hok
    have hts := good_small g1
    have hus := good_small g2
    have HG := hideT (And.intro hok (And.intro hg (And.intro (good_canon g1) (good_canon g2))))
    have HV : Hid (dval t.data.toList = topN a.data.toList ∧ dval u.data.toList = botN a.data.toList ∧ dval t.data.toList < 10 ^ 600 ∧ dval u.data.toList < 10 ^ 600) := ⟨v1, v2, good_lt' g1, good_lt' g2⟩
    clear hok hg g1 v1 g2 v2 hR
    go_wp2_with fail
    refine (l1Radix_any r _).mono ?_
    rintro e w' ⟨rfl, rfl⟩
    cases hr : radOk r with
    | true =>
      obtain ⟨hr1, hr2, hr3⟩ := rad_nat2 hr
      have hb2 : Hid (2 ≤ r.toNat) := by unfold Hid; omega
      have HR := hideT hr1
      have HOK : Hid ((okN a.data.toList && radOk r) = true) := by unfold Hid; rw [HG.out.1, hr]; rfl
      clear hr hr1
      go_wp2_with fail
      refine (l1ToRadix_any t r.toNat r _ hts HG.out.2.2.1 HR.out hr2 hr3).mono ?_
      rintro e w2 ⟨x, rfl, hI, hW2⟩
      have hxs : x.size ≤ 2400 := hI.size_le hb2.out HV.out.2.2.1
      have HI := hideT hI
      have hW2' : Below w.heap.size w w2 := hW1.trans (hW2.mono hW1.size)
      clear hI hW1 hW2
      by_cases hu1 : u.data.toList = [49]
      · have hu1' : (u.toList == [49]) = true := str_eq hu1
        have HY : Hid (∀ s : ByteArray, s.data.toList = (if g then [45] else []) ++ x.data.toList → NumTAns a r (.returned (.tuple #[.string s, .bool true]))) := by
          intro s hs
          refine .inl ⟨HOK.out, s, rfl, ?_⟩
          have hb1 : botN a.data.toList = 1 := by rw [← HV.out.2.1, hu1]; decide
          refine ⟨x, ⟨#[49]⟩, by rw [← HV.out.1]; exact HI.out, by rw [hb1]; exact InRad.one hb2.out, ?_⟩
          rw [hs, if_pos hb1, HG.out.2.1]; simp
        clear hu1
        cases g with
        | true =>
          go_wp2
          go_ret2
          exact ⟨HY.out _ (by simp [ByteArray.data_append]), hW2'⟩
        | false =>
          go_wp2
          go_ret2
          exact ⟨HY.out _ (by simp), hW2'⟩
      · have hu1' : (u.toList == [49]) = false := str_ne hu1
        have HB1 : Hid (¬ botN a.data.toList = 1) := by unfold Hid; rw [← HV.out.2.1]; exact fun e => hu1 ((canon_one HG.out.2.2.2).1 e)
        have HY : Hid (∀ s y : ByteArray, InRad r.toNat (dval u.data.toList) y → s.data.toList = (if g then [45] else []) ++ x.data.toList ++ 47 :: y.data.toList → NumTAns a r (.returned (.tuple #[.string s, .bool true]))) := by
          intro s y hy hs
          refine .inl ⟨HOK.out, s, rfl, x, y, by rw [← HV.out.1]; exact HI.out, by rw [← HV.out.2.1]; exact hy, ?_⟩
          rw [hs, if_neg HB1.out, HG.out.2.1]
        clear hu1
        cases g with
        | true =>
          go_wp2_with fail
          refine (l1ToRadix_any u r.toNat r _ hus HG.out.2.2.2 HR.out hr2 hr3).mono ?_
          rintro e w3 ⟨y, rfl, hJ, hW3⟩
          have hys : y.size ≤ 2400 := hJ.size_le hb2.out HV.out.2.2.2
          have HJ := hideT hJ
          clear hJ
          go_wp2
          go_ret2
          exact ⟨HY.out _ y HJ.out (by simp [ByteArray.data_append]), hW2'.trans (hW3.mono hW2'.size)⟩
        | false =>
          go_wp2_with fail
          refine (l1ToRadix_any u r.toNat r _ hus HG.out.2.2.2 HR.out hr2 hr3).mono ?_
          rintro e w3 ⟨y, rfl, hJ, hW3⟩
          have hys : y.size ≤ 2400 := hJ.size_le hb2.out HV.out.2.2.2
          have HJ := hideT hJ
          clear hJ
          go_wp2
          go_ret2
          exact ⟨HY.out _ y HJ.out (by simp [ByteArray.data_append]), hW2'.trans (hW3.mono hW2'.size)⟩
    | false =>
      have HI : Hid (NumTAns a r (.returned (.tuple #[.string ⟨#[]⟩, .bool false]))) := .inr ⟨by rw [hr, Bool.and_false], rfl⟩
      clear hr
      go_wp2
      go_ret2
      exact ⟨HI.out, hW1⟩
  | false =>
    have HI : Hid (NumTAns a r (.returned (.tuple #[.string ⟨#[]⟩, .bool false]))) := .inr ⟨by rw [hok, Bool.false_and], rfl⟩
    clear hok hR
    go_wp2
    go_ret2
    exact ⟨HI.out, hW1⟩
end Go.Proofs.YteihephciiifbaaDoor
