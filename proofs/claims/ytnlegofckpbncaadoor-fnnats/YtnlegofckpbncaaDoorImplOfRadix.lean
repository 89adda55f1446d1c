/-
  What impl.OfRadix and spec.OfRadix answer.
-/
import Derived.Test.YtnlegofckpbncaaDoorPkMinus
import Derived.Test.YtnlegofckpbncaaDoorPkSpecSub
import Derived.Test.YtnlegofckpbncaaDoorPkSpecMul
import Derived.Test.YtnlegofckpbncaaDoorText
import Derived.Test.YtnlegofckpbncaaDoorPkSpecAdd
namespace Go.Proofs.YtnlegofckpbncaaDoor
open Go.RowKit
set_option linter.unusedVariables false

/-- May s be read in the radix r? -/
def ofOk (s : ByteArray) (r : Int) : Bool := radOk r && ((decide (1 ≤ s.size) && decide (s.size ≤ 2000)) && rdigs r.toNat s.data.toList)

theorem rdOk_eq {s : ByteArray} {r : Int} {b : Nat} (hr : r = (b : Int)) (hk : radOk r = true) : rdOk b s = (ofOk s r && decide (rval b s.data.toList < 10 ^ 1200)) := by
  subst hr
  unfold rdOk ofOk
  rw [hk, Int.toNat_natCast, Bool.true_and]
  simp only [Bool.and_assoc]

theorem ans_of {s : ByteArray} {r : Int} {b : Nat} {o : Bool} {t : ByteArray} (hr : r = (b : Int)) (hk : ofOk s r = true) (ho : o = decide (rval b s.data.toList < 10 ^ 600)) (h1 : o = true → canonB t.data.toList = true ∧ dval t.data.toList = rval b s.data.toList) (h2 : o = false → t = ⟨#[]⟩) :
    Ans (ofOk s r) (rval r.toNat s.data.toList) (.returned (.tuple #[.string t, .bool o])) := by
  subst hr
  rw [Int.toNat_natCast]
  refine .inl ⟨hk, t, by rw [ho], fun h => h1 (by rw [ho]; exact decide_eq_true h), fun h => h2 (by rw [ho]; exact decide_eq_false h)⟩

theorem ten_up {n : Nat} (a b : Nat) (hab : a ≤ b) (h : n < 10 ^ a) : n < 10 ^ b := Nat.lt_of_lt_of_le h (Nat.pow_le_pow_right (by decide) hab)

theorem rad_nat {r : Int} (h : radOk r = true) : ∃ b : Nat, r = (b : Int) ∧ 2 ≤ r ∧ r ≤ 16 := by
  have := (radOk_iff r).1 h
  exact ⟨r.toNat, by omega, by omega, by omega⟩

set_option maxHeartbeats 1000000 in
set_option maxRecDepth 100000 in
theorem implOfRadix_any (s : ByteArray) (r : Int) (w : World) (hs : s.size ≤ maxLen) (hT : Tab w.heap.size w) :
    Calls Tryd.prog 16 #[.string s, .int .i64 r] w fun e w' => Ans (ofOk s r) (rval r.toNat s.data.toList) e ∧ Below w.heap.size w w' := by
  have hz := zero_nat.1
  have HT : Hid (Tab w.heap.size w) := hT
  clear hT
  cases hk : radOk r with
  | true =>
    obtain ⟨b, hb, hr0, hr1⟩ := rad_nat hk
    have HK := hideT hk
    have HB := hideT hb
    have HO := hideT (rdOk_eq (s := s) hb hk)
    clear hk hb
    go_enter Tryd.func16, Tryd.ntmps16
    go_wp2_with fail
    refine (goodRadix_any r _).mono ?_
    rintro e w' ⟨rfl, rfl⟩
    rw [HK.out]
    go_wp2_with fail
    refine (readDigits_any s b r _ hs HB.out hr0 hr1).mono ?_
    rintro e w1 ⟨i, q, rfl, hq, hRep, hW1⟩
    have hs1 := hW1.size
    have A := NatAt.new w1 0 zP
    have hB1 : Below w'.heap.size w' (w1.alloc (.cells (natC 0 zP) 37)) := hW1.alloc (by omega) _
    cases hok : rdOk b s with
    | true =>
      have HR := hideT (hRep hok)
      have HY : Hid (ofOk s r = true) := by
        have h := hok
        rw [HO.out, Bool.and_eq_true] at h
        exact h.1
      clear hok hRep HO
      go_wp2_with (first | (refine store_nat rfl _ _ rfl rfl w1.heap.size i q rfl rfl 0 zP A zP_len hq ?_; intro w2 hN2 hg2 hs2) | (refine load_nat rfl _ rfl w1.heap.size rfl i q hN2 hq ?_))
      have hB2 : Below w'.heap.size w' w2 := hB1.grown hg2 (by simp; omega) (by intro k hk; cases hk; omega)
      have HT2 : Hid (Tab w2.heap.size w2) := (HT.out.on hB2).up hB2.size
      refine (tellNat_any w2 HR.out HT2.out).mono ?_
      rintro e w3 ⟨t, rfl, h1, h2, hW3⟩
      obtain ⟨o, ho⟩ : ∃ o, o = decide (rval b s.data.toList < 10 ^ 600) := ⟨_, rfl⟩
      rw [← ho]
      have HA := hideT (ans_of (o := o) (t := t) HB.out HY.out ho (fun h => h1 (by rw [ho] at h; exact of_decide_eq_true h)) (fun h => h2 (by rw [ho] at h; exact of_decide_eq_false h)))
      clear h1 h2 ho
      go_wp2
      go_ret2
      exact ⟨HA.out, hB2.trans (hW3.mono hB2.size)⟩
    | false =>
      have HA : Hid (Ans (ofOk s r) (rval r.toNat s.data.toList) (.returned (.tuple #[.string ⟨#[]⟩, .bool false]))) := by
        unfold Hid
        have h := hok
        rw [HO.out, Bool.and_eq_false_iff] at h
        by_cases ho : ofOk s r = true
        · have h2 : decide (rval b s.data.toList < 10 ^ 600) = false := by
            rcases h with h | h
            · rw [ho] at h; cases h
            · exact decide_eq_false (fun h5 => of_decide_eq_false h (ten_up 600 1200 (by omega) h5))
          exact ans_of HB.out ho h2.symm (fun h => by cases h) (fun _ => rfl)
        · exact .inr ⟨by simpa using ho, rfl⟩
      clear hok hRep HO
      go_wp2_with (refine store_nat rfl _ _ rfl rfl w1.heap.size i q rfl rfl 0 zP A zP_len hq ?_; intro w2 hN2 hg2 hs2)
      have hB2 : Below w'.heap.size w' w2 := hB1.grown hg2 (by simp; omega) (by intro k hk; cases hk; omega)
      go_ret2
      exact ⟨HA.out, hB2⟩
  | false =>
    have HK := hideT hk
    have HA : Hid (Ans (ofOk s r) (rval r.toNat s.data.toList) (.returned (.tuple #[.string ⟨#[]⟩, .bool false]))) := .inr ⟨by unfold ofOk; rw [hk]; rfl, rfl⟩
    clear hk
    go_enter Tryd.func16, Tryd.ntmps16
    go_wp2_with fail
    refine (goodRadix_any r _).mono ?_
    rintro e w' ⟨rfl, rfl⟩
    rw [HK.out]
    go_wp2
    go_ret2
    exact ⟨HA.out, Below.refl _ _⟩

end Go.Proofs.YtnlegofckpbncaaDoor
