/-
  What spec.laMod, laPow and PowModNat answer.
-/
import Derived.Test.YtkcnadlencajaaaDoorSpecRoot
import Derived.Test.YtkcnadlencajaaaDoorPkImplDigits
namespace Go.Proofs.YtkcnadlencajaaaDoor
open Go.RowKit
set_option linter.unusedVariables false

theorem Tx.lt {s : ByteArray} {n k : Nat} (h : Tx s n) (hk : s.size ≤ k) : n < 10 ^ k := by
  rw [← h.2]; exact Nat.lt_of_lt_of_le (dval_lt _ (canon_all h.1)) (Nat.pow_le_pow_right (by decide) (by simpa using hk))

set_option maxHeartbeats 1000000 in
theorem modT {a b : ByteArray} {n m : Nat} (w : World) (ha : Tx a n) (hb : Tx b m) (hsa : a.size ≤ 2000) (hsb : b.size ≤ 2000) (h0 : m ≠ 0) :
    Calls Tryd.prog 64 #[.string a, .string b] w fun e w' => ∃ s : ByteArray, e = .returned (.string s) ∧ Tx s (n % m) ∧ Below w.heap.size w w' := by
  have HA := hideT (And.intro ha (And.intro hb h0))
  clear ha hb h0
  go_enter Tryd.func64, Tryd.ntmps64
  go_wp2_with fail
  refine (divT _ HA.out.1 HA.out.2.1 hsa hsb HA.out.2.2).mono ?_
  rintro e w1 ⟨s, t, rfl, _, h2, hW1⟩
  have HT := hideT h2
  clear h2
  go_wp2
  go_ret
  exact ⟨t, rfl, HT.out, hW1⟩

set_option maxHeartbeats 4000000 in
set_option maxRecDepth 100000 in
theorem powT {a n m : ByteArray} {A N M : Nat} (w : World) (ha : Tx a A) (hn : Tx n N) (hm : Tx m M) (hsa : a.size ≤ 600) (hsn : n.size ≤ 600) (hsm : m.size ≤ 100) (h0 : M ≠ 0) :
    Calls Tryd.prog 54 #[.string a, .string n, .string m] w fun e w' => ∃ s : ByteArray, e = .returned (.string s) ∧ Tx s (A ^ N % M) ∧ Below w.heap.size w w' := by
  have hM : M < 10 ^ 100 := hm.lt hsm
  have HM := hideT (And.intro hm (And.intro h0 hM))
  have HA := hideT ha
  have HN := hideT hn
  have H1 : Hid (Tx ⟨#[49]⟩ 1) := ⟨by decide, by decide⟩
  clear ha hn hm h0 hM
  go_enter Tryd.func54, Tryd.ntmps54
  go_wp2_with fail
  refine (modT _ H1.out HM.out.1 (by decide) (by omega) HM.out.2.1).mono ?_
  rintro e w1 ⟨s1, rfl, h1, hW1⟩
  have HS1 := hideT h1
  clear h1
  go_wp2_with fail
  refine (modT _ HA.out HM.out.1 (by omega) (by omega) HM.out.2.1).mono ?_
  rintro e w2 ⟨s2, rfl, h2, hW2⟩
  have HS2 := hideT h2
  have hss2 : s2.size ≤ 100 := h2.size (Nat.lt_trans (Nat.mod_lt _ (Nat.pos_of_ne_zero HM.out.2.1)) HM.out.2.2) (by omega)
  have hB2 : Below w.heap.size w w2 := hW1.trans (hW2.mono hW1.size)
  clear h2 hW1 hW2
  go_wp2_with fail
  refine (l1ToRadix_any n 2 2 _ hsn HN.out.1 rfl (by omega) (by omega)).mono ?_
  rintro e w3 ⟨bits, rfl, h3, hW3⟩
  rw [HN.out.2] at h3
  have hN600 := Tx.lt (k := 600) HN.out hsn
  have hbs : bits.size ≤ 2400 := h3.size_le (by omega) hN600
  have HBT := hideT h3.bit
  have hB3 : Below w.heap.size w w3 := hB2.trans (hW3.mono hB2.size)
  clear h3 hN600 hW3 hB2
  go_wp2_with fail
  go_loopg [7, 9] bits.size (fun g vo vi wr => ∃ (j : Nat) (so : ByteArray), g = bits.size - j ∧ j ≤ bits.size ∧ vo = .string so ∧ vi = .int .i64 (j : Int) ∧ Hid (Tx so (A ^ (N / 2 ^ (bits.size - j)) % M)) ∧ Hid (Below w.heap.size w wr))
  case atStart => exact ⟨0, s1, rfl, Nat.zero_le _, rfl, rfl, by unfold Hid; rw [Nat.sub_zero, HBT.out.1, Nat.pow_zero]; exact HS1.out, hB3⟩
  case round =>
    obtain ⟨j, so, hg, hj, rfl, rfl, HO, HBL⟩ := hrel
    have hbl := HBL.out.size
    by_cases hlt : (j : Int) < (bits.size : Int)
    · have hjl : j < bits.size := by omega
      obtain ⟨v, hv⟩ : ∃ v, v = N / 2 ^ (bits.size - j) := ⟨_, rfl⟩
      rw [← hv] at HO
      have HV : Hid (N / 2 ^ (bits.size - (j + 1)) = 2 * v + N / 2 ^ (bits.size - (j + 1)) % 2) := by
        have := bit_step N (bits.size - (j + 1))
        rw [show bits.size - (j + 1) + 1 = bits.size - j by omega, ← hv] at this
        exact this
      have hb := HBT.out.2 j hjl
      have hso : so.size ≤ 100 := HO.out.size (Nat.lt_trans (Nat.mod_lt _ (Nat.pos_of_ne_zero HM.out.2.1)) HM.out.2.2) (by omega)
      clear hv
      go_wp2_with fail
      refine (mulT _ HO.out HO.out (by omega) (by omega)).mono ?_
      rintro e w4 ⟨s4, rfl, h4, hW4⟩
      have hml : A ^ v % M < 10 ^ 100 := Nat.lt_trans (Nat.mod_lt _ (Nat.pos_of_ne_zero HM.out.2.1)) HM.out.2.2
      have hs4 : s4.size ≤ 100 + 100 := h4.size (mul_lt_pow 100 100 hml hml) (by omega)
      have HS4 := hideT h4
      have hB4 : Below w.heap.size w w4 := HBL.out.trans (hW4.mono hbl)
      clear h4 hW4 hml
      go_wp2_with fail
      refine (modT _ HS4.out HM.out.1 (by omega) (by omega) HM.out.2.1).mono ?_
      rintro e w5 ⟨s5, rfl, h5, hW5⟩
      rw [pow_sq] at h5
      have HS5 := hideT h5
      have hs5 : s5.size ≤ 100 := h5.size (Nat.lt_trans (Nat.mod_lt _ (Nat.pos_of_ne_zero HM.out.2.1)) HM.out.2.2) (by omega)
      have hB5 : Below w.heap.size w w5 := hB4.trans (hW5.mono hB4.size)
      clear h5 hW5 hB4
      by_cases h1 : N / 2 ^ (bits.size - (j + 1)) % 2 = 1
      · have h49 : bits[j] = 49 := by rw [hb, if_pos h1]
        have h49' : (bits[j].toNat : Int) = 49 := by rw [h49]; rfl
        have HE : Hid (N / 2 ^ (bits.size - (j + 1)) = 2 * v + 1) := by unfold Hid; rw [HV.out, h1]
        clear hb h49 h1 HV
        go_wp2_with fail
        refine (mulT _ HS5.out HS2.out (by omega) (by omega)).mono ?_
        rintro e w6 ⟨s6, rfl, h6, hW6⟩
        have hs6 : s6.size ≤ 100 + 100 := h6.size (mul_lt_pow 100 100 (Nat.lt_trans (Nat.mod_lt _ (Nat.pos_of_ne_zero HM.out.2.1)) HM.out.2.2) (Nat.lt_trans (Nat.mod_lt _ (Nat.pos_of_ne_zero HM.out.2.1)) HM.out.2.2)) (by omega)
        have HS6 := hideT h6
        have hB6 : Below w.heap.size w w6 := hB5.trans (hW6.mono hB5.size)
        clear h6 hW6
        go_wp2_with fail
        refine (modT _ HS6.out HM.out.1 (by omega) (by omega) HM.out.2.1).mono ?_
        rintro e w7 ⟨s7, rfl, h7, hW7⟩
        rw [pow_sq1] at h7
        have HS7 := hideT h7
        have hB7 : Below w.heap.size w w7 := hB6.trans (hW7.mono hB6.size)
        clear h7 hW7
        go_wp2
        go_roundg (bits.size - (j + 1))
        case measure => omega
        case rel => exact ⟨j + 1, s7, rfl, by omega, rfl, by go_num, by unfold Hid; rw [HE.out]; exact HS7.out, hB7⟩
      · have h48 : bits[j] = 48 := by rw [hb, if_neg h1]
        have h48' : ((bits[j].toNat : Int) == 49) = false := by rw [h48]; rfl
        have HE : Hid (N / 2 ^ (bits.size - (j + 1)) = 2 * v) := by unfold Hid; have := HV.out; omega
        clear hb h48 h1 HV
        go_wp2
        go_roundg (bits.size - (j + 1))
        case measure => omega
        case rel => exact ⟨j + 1, s5, rfl, by omega, rfl, by go_num, by unfold Hid; rw [HE.out]; exact HS5.out, hB5⟩
    · have hjb : j = bits.size := by omega
      have HE : Hid (Tx so (A ^ N % M)) := by
        have := HO.out
        rw [hjb, Nat.sub_self, Nat.pow_zero, Nat.div_one] at this
        exact this
      clear hjb
      go_wp2
      go_ret
      exact ⟨so, rfl, HE.out, HBL.out⟩

/-- May the power be told? -/
def pmOk (a n m : ByteArray) : Bool := goodB a.data.toList && (goodB n.data.toList && goodB m.data.toList) && !decide (dval m.data.toList = 0) && decide (n.size ≤ 60) && decide (m.size ≤ 100)
/-- What PowModNat answers. -/
def PmAns (a n m : ByteArray) (e : Ending) : Prop :=
  (pmOk a n m = true ∧ ∃ s : ByteArray, e = .returned (.tuple #[.string s, .bool true]) ∧ Tx s (dval a.data.toList ^ dval n.data.toList % dval m.data.toList)) ∨ (pmOk a n m = false ∧ e = .returned (.tuple #[.string ⟨#[]⟩, .bool false]))
theorem PmAns.same {a n m : ByteArray} {e e' : Ending} (h : PmAns a n m e) (g : PmAns a n m e') : ∃ (s : ByteArray) (o : Bool), e = .returned (.tuple #[.string s, .bool o]) ∧ e' = .returned (.tuple #[.string s, .bool o]) := by
  rcases h with ⟨h0, s, rfl, h1⟩ | ⟨h0, rfl⟩
  · rcases g with ⟨g0, s', rfl, g1⟩ | ⟨g0, rfl⟩
    · obtain rfl := h1.inj g1
      exact ⟨_, _, rfl, rfl⟩
    · rw [h0] at g0; cases g0
  · rcases g with ⟨g0, _⟩ | ⟨g0, rfl⟩
    · rw [h0] at g0; cases g0
    · exact ⟨_, _, rfl, rfl⟩

set_option maxHeartbeats 2000000 in
set_option maxRecDepth 100000 in
theorem specPowMod_any (a n m : ByteArray) (w : World) (hsa : a.size ≤ maxLen) (hsn : n.size ≤ maxLen) (hsm : m.size ≤ maxLen) :
    Calls Tryd.prog 16 #[.string a, .string n, .string m] w fun e w' => PmAns a n m e ∧ Below w.heap.size w w' := by
  have no : pmOk a n m = false → Hid (PmAns a n m (.returned (.tuple #[.string ⟨#[]⟩, .bool false]))) := fun h => .inr ⟨h, rfl⟩
  cases hga : goodB a.data.toList with
  | false =>
    have HN := no (by unfold pmOk; rw [hga]; rfl)
    have HG := hideT hga
    clear no hga
    go_enter Tryd.func16, Tryd.ntmps16
    go_wp2_with fail
    refine (specGood_any a _ hsa).mono ?_
    rintro e w' ⟨rfl, rfl⟩
    rw [HG.out]
    go_wp2
    go_ret2
    exact ⟨HN.out, Below.refl _ _⟩
  | true =>
    cases hgb : (goodB n.data.toList && goodB m.data.toList) with
    | false =>
      have HN := no (by unfold pmOk; rw [hga, hgb]; rfl)
      have HG := hideT hga
      have HH := hideT hgb
      clear no hga hgb
      go_enter Tryd.func16, Tryd.ntmps16
      go_wp2_with fail
      refine (specGood_any a _ hsa).mono ?_
      rintro e w' ⟨rfl, rfl⟩
      rw [HG.out]
      go_wp2_with fail
      refine (l1Both_any n m _ hsn hsm).mono ?_
      rintro e w' ⟨rfl, rfl⟩
      rw [HH.out]
      go_wp2
      go_ret2
      exact ⟨HN.out, Below.refl _ _⟩
    | true =>
      have hgb' := hgb
      simp only [Bool.and_eq_true] at hgb'
      obtain ⟨hgn, hgm⟩ := hgb'
      have hz := (Tx.bytes (s := m) ⟨good_canon hgm, rfl⟩ [48] (by decide))
      rw [show dval [48] = 0 by decide] at hz
      by_cases hm0 : dval m.data.toList = 0
      · have HN := no (by unfold pmOk; rw [hga, hgb, hm0]; rfl)
        rw [decide_eq_true hm0] at hz
        have HG := hideT hga
        have HH := hideT hgb
        clear no hga hgb hgn hgm hm0
        go_enter Tryd.func16, Tryd.ntmps16
        go_wp2_with fail
        refine (specGood_any a _ hsa).mono ?_
        rintro e w' ⟨rfl, rfl⟩
        rw [HG.out]
        go_wp2_with fail
        refine (l1Both_any n m _ hsn hsm).mono ?_
        rintro e w' ⟨rfl, rfl⟩
        rw [HH.out]
        go_wp2
        go_ret2
        exact ⟨HN.out, Below.refl _ _⟩
      · rw [decide_eq_false hm0] at hz
        by_cases hl : (n.size : Int) ≤ 60 ∧ (m.size : Int) ≤ 100
        · obtain ⟨hl1, hl2⟩ := hl
          have hok : pmOk a n m = true := by unfold pmOk; rw [hga, hgb, decide_eq_false hm0, decide_eq_true (by omega), decide_eq_true (by omega)]; rfl
          have hla : a.size ≤ 600 := by have := good_len hga; simpa using this
          have HT : Hid (Tx a (dval a.data.toList) ∧ Tx n (dval n.data.toList) ∧ Tx m (dval m.data.toList) ∧ dval m.data.toList ≠ 0) := ⟨⟨good_canon hga, rfl⟩, ⟨good_canon hgn, rfl⟩, ⟨good_canon hgm, rfl⟩, hm0⟩
          have HOK := hideT hok
          have HG := hideT hga
          have HH := hideT hgb
          clear no hga hgb hgn hgm hm0 hok
          go_enter Tryd.func16, Tryd.ntmps16
          go_wp2_with fail
          refine (specGood_any a _ hsa).mono ?_
          rintro e w' ⟨rfl, rfl⟩
          rw [HG.out]
          go_wp2_with fail
          refine (l1Both_any n m _ hsn hsm).mono ?_
          rintro e w' ⟨rfl, rfl⟩
          rw [HH.out]
          go_wp2_with fail
          refine (powT _ HT.out.1 HT.out.2.1 HT.out.2.2.1 hla (by omega) (by omega) HT.out.2.2.2).mono ?_
          rintro e w1 ⟨s, rfl, hs, hW1⟩
          have HA : Hid (PmAns a n m (.returned (.tuple #[.string s, .bool true]))) := .inl ⟨HOK.out, s, rfl, hs⟩
          clear hs
          go_wp2
          go_ret2
          exact ⟨HA.out, hW1⟩
        · have HN := no (by
            unfold pmOk
            rw [Bool.and_assoc]
            have : (decide (n.size ≤ 60) && decide (m.size ≤ 100)) = false := by
              rw [Bool.and_eq_false_iff]
              by_cases h : n.size ≤ 60
              · right; exact decide_eq_false (fun h2 => hl ⟨by omega, by omega⟩)
              · left; exact decide_eq_false h
            rw [this, Bool.and_false])
          have HG := hideT hga
          have HH := hideT hgb
          by_cases hl1 : (n.size : Int) ≤ 60
          · have hl2 : ¬ (m.size : Int) ≤ 100 := fun h => hl ⟨hl1, h⟩
            clear no hga hgb hgn hgm hm0 hl
            go_enter Tryd.func16, Tryd.ntmps16
            go_wp2_with fail
            refine (specGood_any a _ hsa).mono ?_
            rintro e w' ⟨rfl, rfl⟩
            rw [HG.out]
            go_wp2_with fail
            refine (l1Both_any n m _ hsn hsm).mono ?_
            rintro e w' ⟨rfl, rfl⟩
            rw [HH.out]
            go_wp2
            go_ret2
            exact ⟨HN.out, Below.refl _ _⟩
          · clear no hga hgb hgn hgm hm0 hl
            go_enter Tryd.func16, Tryd.ntmps16
            go_wp2_with fail
            refine (specGood_any a _ hsa).mono ?_
            rintro e w' ⟨rfl, rfl⟩
            rw [HG.out]
            go_wp2_with fail
            refine (l1Both_any n m _ hsn hsm).mono ?_
            rintro e w' ⟨rfl, rfl⟩
            rw [HH.out]
            go_wp2
            go_ret2
            exact ⟨HN.out, Below.refl _ _⟩
end Go.Proofs.YtkcnadlencajaaaDoor
