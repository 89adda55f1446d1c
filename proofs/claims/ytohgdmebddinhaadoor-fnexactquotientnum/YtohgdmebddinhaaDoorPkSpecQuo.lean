/-
  The texts SpecQuo, Same, one behind the other.
-/
import Derived.Test.YtohgdmebddinhaaDoorPkImplNumT
import Derived.Test.YtohgdmebddinhaaDoorPkSpecMulNum
import Derived.Test.YtohgdmebddinhaaDoorPkAppDatum
import Derived.Test.YtohgdmebddinhaaDoorPkSeats

/-
  What spec.l2Whole, spec.l2Quotient and spec.QuotientNum answer.
-/
namespace Go.Proofs.YtohgdmebddinhaaDoor
open Go.RowKit
set_option linter.unusedVariables false

theorem cut47_whole : ∀ (l : List UInt8), (cut47 l).2.2 = false → (cut47 l).1 = l
  | [], _ => rfl
  | c :: m, h => by
    by_cases h0 : c = 47
    · simp [cut47, h0] at h
    · simp only [cut47, if_neg h0] at h ⊢
      rw [cut47_whole m h]

/-- A whole number is 0 where its text is so. -/
theorem whole_zero {l : List UInt8} (h : wholeOk l = true) : l = [48] ↔ topN l = 0 := by
  constructor
  · rintro rfl; decide
  · intro h0
    unfold wholeOk at h
    rw [Bool.and_eq_true, decide_eq_true_eq] at h
    obtain ⟨hok, hb⟩ := h
    have hng : negN l = false := by
      cases hn : negN l with
      | false => rfl
      | true => exact absurd h0 (okN_neg hok hn)
    have hbr : brokenN l = false := by
      cases hn : brokenN l with
      | false => rfl
      | true =>
        unfold okN at hok
        unfold botN at hb
        rw [hn] at hok hb
        rw [if_pos rfl] at hb
        simp [hb] at hok
    have hgo : goodB (overN l) = true := by
      unfold okN at hok
      simp only [Bool.and_eq_true] at hok
      exact hok.1.1
    have h1 : overN l = [48] := (canon_zero (good_canon hgo)).1 h0
    unfold overN at h1
    rw [cut47_whole _ hbr] at h1
    unfold bodyN at h1
    rw [hng] at h1
    exact h1

set_option maxHeartbeats 400000 in
theorem l2Whole_any (a : ByteArray) (w : World) (hsa : a.size ≤ maxLen) :
    Calls Tryd.prog 27 #[.string a] w fun e w' => e = .returned (.bool (wholeOk a.data.toList)) ∧ Below w.heap.size w w' := by
  go_enter Tryd.func27, Tryd.ntmps27
  go_wp2_with fail
  refine (l2Parts_any a _ hsa).mono ?_
  rintro e w1 ⟨⟨g, t, u, rfl, hR⟩, hW1⟩
  cases hok : okN a.data.toList with
  | true =>
    obtain ⟨hg, g1, v1, g2, v2⟩ := hR hok
    by_cases hu : u.data.toList = [49]
    · have hu' : (u.toList == [49]) = true := str_eq hu
      have HW : Hid (wholeOk a.data.toList = true) := by
        unfold Hid wholeOk; rw [hok, decide_eq_true (by rw [← v2, hu]; decide)]; rfl
      clear hok hR hg g1 v1 g2 v2 hu
      go_wp2
      go_ret
      exact ⟨by rw [HW.out]; rfl, hW1⟩
    · have hu' : (u.toList == [49]) = false := str_ne hu
      have HW : Hid (wholeOk a.data.toList = false) := by
        unfold Hid wholeOk; rw [hok, decide_eq_false (by rw [← v2]; exact fun e => hu ((canon_one (good_canon g2)).1 e))]; rfl
      clear hok hR hg g1 v1 g2 v2 hu
      go_wp2
      go_ret
      exact ⟨by rw [HW.out]; rfl, hW1⟩
  | false =>
    have HW : Hid (wholeOk a.data.toList = false) := by unfold Hid wholeOk; rw [hok]; rfl
    clear hok hR
    go_wp2
    go_ret
    exact ⟨by rw [HW.out]; rfl, hW1⟩

theorem make_one {g : Bool} {x : ByteArray} {n : Nat} {e : Ending} (hv : dval x.data.toList = n) (hn : n < 10 ^ 600)
    (h : TellsN (g && decide (dval x.data.toList ≠ 0)) (dval x.data.toList / Nat.gcd (dval x.data.toList) (dval (⟨#[49]⟩ : ByteArray).data.toList)) (dval (⟨#[49]⟩ : ByteArray).data.toList / Nat.gcd (dval x.data.toList) (dval (⟨#[49]⟩ : ByteArray).data.toList)) e) :
    ∃ s : ByteArray, e = .returned (.tuple #[.string s, .bool true]) ∧ NumR 10 (g && decide (n ≠ 0)) n 1 s := by
  rw [one_canon.2, Nat.gcd_one_right, Nat.div_one, Nat.div_one, hv] at h
  obtain ⟨s, rfl, h1, _⟩ := h
  have hb : (decide (n < 10 ^ 600) && decide (1 < 10 ^ 600)) = true := by rw [decide_eq_true hn, decide_eq_true (one_lt' 600 (by decide))]; rfl
  exact ⟨s, by rw [hb], h1 hb⟩

set_option maxHeartbeats 1000000 in
set_option maxRecDepth 100000 in
theorem l2Quotient_any (a b : ByteArray) (w : World) (hsa : a.size ≤ maxLen) (hsb : b.size ≤ maxLen) (ha : okN a.data.toList = true) (hb : okN b.data.toList = true) (h0 : topN b.data.toList ≠ 0) :
    Calls Tryd.prog 28 #[.string a, .string b] w fun e w' => ∃ s t : ByteArray, e = .returned (.tuple #[.string s, .string t]) ∧ QuoR a b s t ∧ Below w.heap.size w w' := by
  have HO := hideT (And.intro ha (And.intro hb h0))
  clear ha hb h0
  go_enter Tryd.func28, Tryd.ntmps28
  go_wp2_with fail
  refine (l2Parts_any a _ hsa).mono ?_
  rintro e w1 ⟨⟨g, t, u, rfl, hRa⟩, hW1⟩
  rw [HO.out.1] at hRa ⊢
  have HRA := hideT (hRa rfl)
  clear hRa
  go_wp2_with fail
  refine (l2Parts_any b _ hsb).mono ?_
  rintro e w2 ⟨⟨g', t', u', rfl, hRb⟩, hW2⟩
  rw [HO.out.2.1] at hRb ⊢
  have HRB := hideT (hRb rfl)
  have hB2 : Below w.heap.size w w2 := hW1.trans (hW2.mono hW1.size)
  clear hRb hW1 hW2
  have ht := good_size HRA.out.2.1
  have ht' := good_size HRB.out.2.1
  have HZ : Hid (dval t'.data.toList ≠ 0) := by unfold Hid; rw [HRB.out.2.2.1]; exact HO.out.2.2
  go_wp2_with fail
  refine (l1Div_any t t' w2 (by omega) (by omega) (good_canon HRA.out.2.1) (good_canon HRB.out.2.1) HZ.out).mono ?_
  rintro e w3 ⟨x, y, rfl, c1, v1, c2, v2, hW3⟩
  have hB3 : Below w.heap.size w w3 := hB2.trans (hW3.mono hB2.size)
  have hxs : x.size ≤ 600 := by have := canon_le_size (good_canon HRA.out.2.1) c1 (by rw [v1]; exact Nat.div_le_self _ _); omega
  have hys : y.size ≤ 600 := by have := canon_le_size (good_canon HRA.out.2.1) c2 (by rw [v2]; exact Nat.mod_le _ _); omega
  rw [HRA.out.2.2.1, HRB.out.2.2.1] at v1 v2
  have HX := hideT (And.intro (And.intro c1 v1) (And.intro c2 v2))
  have HL : Hid (topN a.data.toList / topN b.data.toList < 10 ^ 600 ∧ topN a.data.toList % topN b.data.toList < 10 ^ 600) := by
    have := okN_lt HO.out.1
    exact ⟨Nat.lt_of_le_of_lt (Nat.div_le_self _ _) this, Nat.lt_of_le_of_lt (Nat.mod_le _ _) this⟩
  clear c1 v1 c2 v2 hB2 hW3
  go_wp2_with fail
  refine (l2Make_any (g != g') x ⟨#[49]⟩ w3 (by omega) (by decide) HX.out.1.1 one_canon.1 (by rw [one_canon.2]; decide)).mono ?_
  rintro e w4 ⟨hTN, hW4⟩
  obtain ⟨s1, rfl, h1⟩ := make_one HX.out.1.2 HL.out.1 hTN
  have HS1 := hideT h1
  have hB4 : Below w.heap.size w w4 := hB3.trans (hW4.mono hB3.size)
  clear hTN h1 hB3 hW4
  go_wp2_with fail
  refine (l2Make_any g y ⟨#[49]⟩ w4 (by omega) (by decide) HX.out.2.1 one_canon.1 (by rw [one_canon.2]; decide)).mono ?_
  rintro e w5 ⟨hTN, hW5⟩
  obtain ⟨s2, rfl, h2⟩ := make_one HX.out.2.2 HL.out.2 hTN
  have HS2 := hideT h2
  have hB5 : Below w.heap.size w w5 := hB4.trans (hW5.mono hB4.size)
  clear hTN h2 hB4 hW5
  go_wp2
  go_ret2
  refine ⟨s1, s2, rfl, ⟨?_, ?_⟩, hB5⟩
  · rw [← HRA.out.1, ← HRB.out.1]; exact HS1.out
  · rw [← HRA.out.1]; exact HS2.out

set_option maxHeartbeats 1000000 in
theorem specQuo_any (a b : ByteArray) (w : World) (hsa : a.size ≤ maxLen) (hsb : b.size ≤ maxLen) :
    Calls Tryd.prog 16 #[.string a, .string b] w fun e w' => QuoAns a b e ∧ Below w.heap.size w w' := by
  have NO : Hid (quoOk a b = false → QuoAns a b (.returned (.tuple #[.string ⟨#[]⟩, .string ⟨#[]⟩, .bool false]))) := fun h => .inr ⟨h, rfl⟩
  go_enter Tryd.func16, Tryd.ntmps16
  go_wp2_with fail
  refine (l2Whole_any a _ hsa).mono ?_
  rintro e w1 ⟨rfl, hW1⟩
  cases ha : wholeOk a.data.toList with
  | false =>
    have HI := hideT (NO.out (by unfold quoOk; rw [ha]; rfl))
    clear ha
    go_wp2
    go_ret3
    exact ⟨HI.out, hW1⟩
  | true =>
    have HA := hideT ha
    clear ha
    go_wp2_with fail
    refine (l2Whole_any b _ hsb).mono ?_
    rintro e w2 ⟨rfl, hW2⟩
    have hB2 : Below w.heap.size w w2 := hW1.trans (hW2.mono hW1.size)
    cases hb : wholeOk b.data.toList with
    | false =>
      have HI := hideT (NO.out (by unfold quoOk; rw [hb, Bool.and_false]; rfl))
      clear hb
      go_wp2
      go_ret3
      exact ⟨HI.out, hB2⟩
    | true =>
      have HB := hideT hb
      clear hb
      by_cases hz : b.data.toList = [48]
      · have hz' : (b.toList == [48]) = true := str_eq hz
        have HI := hideT (NO.out (by unfold quoOk; rw [(whole_zero HB.out).1 hz]; simp))
        clear hz
        go_wp2
        go_ret3
        exact ⟨HI.out, hB2⟩
      · have hz' : (b.toList == [48]) = false := str_ne hz
        have HZ : Hid (topN b.data.toList ≠ 0) := fun e => hz ((whole_zero HB.out).2 e)
        have HK : Hid (quoOk a b = true) := by unfold Hid quoOk; rw [HA.out, HB.out, decide_eq_true HZ.out]; rfl
        have HOA : Hid (okN a.data.toList = true) := by have := HA.out; unfold wholeOk at this; rw [Bool.and_eq_true] at this; exact this.1
        have HOB : Hid (okN b.data.toList = true) := by have := HB.out; unfold wholeOk at this; rw [Bool.and_eq_true] at this; exact this.1
        clear hz
        go_wp2_with fail
        refine (l2Quotient_any a b _ hsa hsb HOA.out HOB.out HZ.out).mono ?_
        rintro e w3 ⟨s, t, rfl, hQ, hW3⟩
        have HI : Hid (QuoAns a b (.returned (.tuple #[.string s, .string t, .bool true]))) := .inl ⟨HK.out, s, t, rfl, hQ⟩
        clear hQ
        go_wp2
        go_ret3
        exact ⟨HI.out, hB2.trans (hW3.mono hB2.size)⟩
end Go.Proofs.YtohgdmebddinhaaDoor

/-
  Whether data are the same.
-/
namespace Go.Proofs.YtohgdmebddinhaaDoor
open Go.RowKit
set_option linter.unusedVariables false

def dmEq (d e : Dm) : Bool := ((d.k == e.k) && (d.t.toList == e.t.toList)) && (d.u == e.u)
def sameD (l m : List Dm) : Bool := decide (l.length = m.length) && (List.range l.length).all (fun i => dmEq (l.getD i default) (m.getD i default))
theorem sameD_len {l m : List Dm} (h : l.length ≠ m.length) : sameD l m = false := by unfold sameD; rw [decide_eq_false h]; rfl
theorem sameD_no {l m : List Dm} {k : Nat} (hk : k < l.length) (h : dmEq (l.getD k default) (m.getD k default) = false) : sameD l m = false := by
  unfold sameD
  have : (List.range l.length).all (fun i => dmEq (l.getD i default) (m.getD i default)) = false := by
    rw [List.all_eq_false]
    exact ⟨k, List.mem_range.2 hk, by rw [h]; decide⟩
  rw [this, Bool.and_false]
theorem sameD_yes {l m : List Dm} (hlm : l.length = m.length) (h : ∀ k, k < l.length → dmEq (l.getD k default) (m.getD k default) = true) : sameD l m = true := by
  unfold sameD
  rw [decide_eq_true hlm, Bool.true_and, List.all_eq_true]
  intro k hk
  exact h k (List.mem_range.1 hk)

/-- What SameData should answer. -/
def sameV (l m : List Dm) : Value := .tuple #[.bool ((goodAll l && goodAll m) && sameD l m), .bool (goodAll l && goodAll m)]

end Go.Proofs.YtohgdmebddinhaaDoor
