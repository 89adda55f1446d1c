/-
  The texts Good, Cmp, Str, CmpLib, SpecCmp, one behind the other.
-/
import Derived.Test.YtmfpnbmfcoahbaaDoorRows
import Derived.Test.YtmfpnbmfcoahbaaDoorPkMath
import Derived.WalkKit
import Derived.WalkSpells
import Derived.WalkLawsBesides
import Derived.WideShapes

/-
  What spec.l1Digits, spec.GoodNat and impl.GoodNat answer: for every text that can be read, whether it is a natural number's text; no memory is turned.
-/
namespace Go.Proofs.YtmfpnbmfcoahbaaDoor
open Go.RowKit
set_option linter.unusedVariables false

theorem ret_bool {a b : Bool} (h : a = b) : Ending.returned (.bool a) = .returned (.bool b) := by rw [h]

theorem int_one (n : Nat) : ((n : Int) == 1) = decide (n = 1) := by
  by_cases h : n = 1
  · subst h; rfl
  · rw [decide_eq_false h, beq_eq_false_iff_ne]; omega

theorem take_snoc (s : ByteArray) (k : Nat) (h : k < s.size) : s.data.toList.take (k + 1) = s.data.toList.take k ++ [s[k]] := by
  rw [List.take_succ_eq_append_getElem (by simpa using h)]; rfl

/-- A byte that is no digit: the text is no number's. -/
theorem canon_bad (s : ByteArray) (k : Nat) (h : k < s.size) (hb : ¬ (48 ≤ s[k].toNat ∧ s[k].toNat ≤ 57)) : canonB s.data.toList = false := by
  unfold canonB
  have : s.data.toList.all isDig = false := by
    rw [List.all_eq_false]
    refine ⟨s[k], ?_, by simpa [isDig] using hb⟩
    have : s.data.toList[k]'(by simpa using h) = s[k] := by simp; rfl
    rw [← this]; exact List.getElem_mem _
  rw [this]; rfl

theorem digs_step (s : ByteArray) (k : Nat) (h : k < s.size) (h0 : (s.data.toList.take k).all isDig = true) (h1 : 48 ≤ s[k].toNat) (h2 : s[k].toNat ≤ 57) : (s.data.toList.take (k + 1)).all isDig = true := by
  rw [take_snoc s k h, List.all_append, h0]; simp [isDig, h1, h2]

/-- Digits alone: what is left to ask. -/
theorem canon_of_all (s : ByteArray) (h : s.data.toList.all isDig = true) (hp : 0 < s.size) : canonB s.data.toList = (!(s[0] == 48) || decide (s.size = 1)) := by
  obtain ⟨⟨l⟩⟩ := s
  cases l with
  | nil => simp [ByteArray.size] at hp
  | cons c m =>
    have e : (ByteArray.mk ⟨c :: m⟩)[0] = c := rfl
    rw [e]
    simp only [canonB, h, Bool.true_and]
    congr 1
    cases m <;> simp [ByteArray.size]

theorem canon_empty (s : ByteArray) (h : s.size = 0) : canonB s.data.toList = false := by
  obtain ⟨⟨l⟩⟩ := s
  cases l with
  | nil => rfl
  | cons c m => simp [ByteArray.size] at h

set_option maxHeartbeats 400000 in
theorem l1Digits_any (s : ByteArray) (w : World) (hs : s.size ≤ maxLen) :
    Calls Tryd.prog 63 #[.string s] w fun e w' => e = .returned (.bool (canonB s.data.toList)) ∧ w' = w := by
  unfold maxLen at hs
  go_enter Tryd.func63, Tryd.ntmps63
  go_wp2
  go_loop [3] (fun i => ∃ k : Nat, k ≤ s.size ∧ i = .int .i64 k ∧ (s.data.toList.take k).all isDig = true) (fun i => s.size - (intOf i).toNat)
  case atStart => exact ⟨0, Nat.zero_le _, rfl, rfl⟩
  case round =>
    obtain ⟨k, hk, rfl, hd⟩ := hrel
    have HD : Hid ((s.data.toList.take k).all isDig = true) := hd
    clear hd
    by_cases hlt : k < s.size
    · go_wp2
      · have hb : (s[k].toNat : Int) < 48 ∨ 57 < (s[k].toNat : Int) := by assumption
        have hc := canon_bad s k hlt (by omega)
        go_ret
        exact ⟨ret_bool hc.symm, rfl⟩
      · have hb : 48 ≤ (s[k].toNat : Int) ∧ (s[k].toNat : Int) ≤ 57 := by assumption
        go_round
        case rel => exact ⟨k + 1, by omega, by go_num, digs_step s k hlt HD.out (by omega) (by omega)⟩
        case measure => simp [intOf]; omega
      · have hb : (s[k].toNat : Int) < 48 := by assumption
        have hc := canon_bad s k hlt (by omega)
        go_ret
        exact ⟨ret_bool hc.symm, rfl⟩
    · have hall : Hid (s.data.toList.all isDig = true) := by
        have := HD.out; rwa [List.take_of_length_le (by simp; omega)] at this
      by_cases hp : 0 < s.size
      · have hc : Hid (canonB s.data.toList = (!(s[0] == 48) || decide (s.size = 1))) := canon_of_all s hall.out hp
        go_wp2
        · have h0 : (s[0].toNat : Int) = 48 := by assumption
          have h1 : s[0] = 48 := UInt8.toNat_inj.1 (by simpa using (by omega : s[0].toNat = 48))
          go_ret
          exact ⟨ret_bool (by rw [hc.out, h1, int_one]; rfl), rfl⟩
        · have h0 : ¬ (s[0].toNat : Int) = 48 := by assumption
          have h1 : (s[0] == 48) = false := by
            rw [beq_eq_false_iff_ne]; intro e; rw [e] at h0; exact h0 rfl
          go_ret
          exact ⟨ret_bool (by rw [hc.out, h1]; rfl), rfl⟩
      · have hc : Hid (canonB s.data.toList = false) := canon_empty s (by omega)
        go_wp2
        go_ret
        exact ⟨ret_bool hc.out.symm, rfl⟩

theorem specGood_any (s : ByteArray) (w : World) (hs : s.size ≤ maxLen) :
    Calls Tryd.prog 27 #[.string s] w fun e w' => e = .returned (.bool (goodB s.data.toList)) ∧ w' = w := by
  have hsz : s.data.toList.length = s.size := by simp
  by_cases h : (s.size : Int) ≤ 600
  · have hg : Hid (goodB s.data.toList = canonB s.data.toList) := by
      unfold Hid goodB; rw [hsz]; simp; omega
    clear hsz
    go_enter Tryd.func27, Tryd.ntmps27
    go_wp2_with (go_at_call 63; refine (l1Digits_any s _ hs).mono ?_; rintro e w' ⟨rfl, rfl⟩)
    go_ret
    exact ⟨ret_bool hg.out.symm, rfl⟩
  · have hg : Hid (goodB s.data.toList = false) := by
      unfold Hid goodB; rw [hsz]; simp; omega
    clear hsz
    go_enter Tryd.func27, Tryd.ntmps27
    go_wp2_with (go_at_call 63; refine (l1Digits_any s _ hs).mono ?_; rintro e w' ⟨rfl, rfl⟩)
    go_ret
    exact ⟨ret_bool hg.out.symm, rfl⟩

set_option maxHeartbeats 400000 in
theorem implGood_any (s : ByteArray) (w : World) (hs : s.size ≤ maxLen) :
    Calls Tryd.prog 51 #[.string s] w fun e w' => e = .returned (.bool (goodB s.data.toList)) ∧ w' = w := by
  unfold maxLen at hs
  have hsz : s.data.toList.length = s.size := by simp
  by_cases h0 : 0 < s.size
  · by_cases h : s.size ≤ 600
    · have hg : Hid (goodB s.data.toList = canonB s.data.toList) := by
        unfold Hid goodB; rw [hsz]; simp; omega
      have hca : Hid (s.data.toList.all isDig = true → canonB s.data.toList = (!(s[0] == 48) || decide (s.size = 1))) := fun h => canon_of_all s h h0
      clear hsz
      by_cases h48 : (s[0].toNat : Int) = 48
      · have h1 : Hid ((s[0] == 48) = true) := by
          unfold Hid; rw [beq_iff_eq]; exact UInt8.toNat_inj.1 (by simpa using (by omega : s[0].toNat = 48))
        by_cases hone : (1 : Int) < (s.size : Int)
        · have hbad : Hid (canonB s.data.toList = false) := by
            cases hall : s.data.toList.all isDig with
            | true => 
              have := hca.out hall; unfold Hid; rw [this, h1.out]; simp; omega
            | false => unfold Hid canonB; rw [hall]; rfl
          go_enter Tryd.func51, Tryd.ntmps51
          go_wp2
          go_ret
          exact ⟨ret_bool (by rw [hg.out, hbad.out]), rfl⟩
        · have hfin : Hid (s.data.toList.all isDig = true → canonB s.data.toList = true) := by
            intro hh; rw [hca.out hh]; simp; omega
          go_enter Tryd.func51, Tryd.ntmps51
          go_wp2
          go_loop [24] (fun i => ∃ k : Nat, k ≤ s.size ∧ i = .int .i64 k ∧ (s.data.toList.take k).all isDig = true) (fun i => s.size - (intOf i).toNat)
          case atStart => exact ⟨0, Nat.zero_le _, rfl, rfl⟩
          case round =>
            obtain ⟨k, hk, rfl, hd⟩ := hrel
            have HD : Hid ((s.data.toList.take k).all isDig = true) := hd
            clear hd
            by_cases hlt : k < s.size
            · go_wp2
              · have hb : (s[k].toNat : Int) < 48 ∨ 57 < (s[k].toNat : Int) := by assumption
                have hc := canon_bad s k hlt (by omega)
                go_ret
                exact ⟨ret_bool (by rw [hg.out, hc]), rfl⟩
              · have hb : 48 ≤ (s[k].toNat : Int) ∧ (s[k].toNat : Int) ≤ 57 := by assumption
                go_round
                case rel => exact ⟨k + 1, by omega, by go_num, digs_step s k hlt HD.out (by omega) (by omega)⟩
                case measure => simp [intOf]; omega
              · have hb : (s[k].toNat : Int) < 48 := by assumption
                have hc := canon_bad s k hlt (by omega)
                go_ret
                exact ⟨ret_bool (by rw [hg.out, hc]), rfl⟩
            · have hall : Hid (s.data.toList.all isDig = true) := by
                have := HD.out; rwa [List.take_of_length_le (by simp; omega)] at this
              go_wp2
              go_ret
              exact ⟨ret_bool (by rw [hg.out, hfin.out hall.out]), rfl⟩
      · have h1 : Hid ((s[0] == 48) = false) := by
          unfold Hid; rw [beq_eq_false_iff_ne]; intro e; rw [e] at h48; exact h48 rfl
        have hfin : Hid (s.data.toList.all isDig = true → canonB s.data.toList = true) := by
          intro hh; rw [hca.out hh, h1.out]; rfl
        go_enter Tryd.func51, Tryd.ntmps51
        go_wp2
        go_loop [24] (fun i => ∃ k : Nat, k ≤ s.size ∧ i = .int .i64 k ∧ (s.data.toList.take k).all isDig = true) (fun i => s.size - (intOf i).toNat)
        case atStart => exact ⟨0, Nat.zero_le _, rfl, rfl⟩
        case round =>
          obtain ⟨k, hk, rfl, hd⟩ := hrel
          have HD : Hid ((s.data.toList.take k).all isDig = true) := hd
          clear hd
          by_cases hlt : k < s.size
          · go_wp2
            · have hb : (s[k].toNat : Int) < 48 ∨ 57 < (s[k].toNat : Int) := by assumption
              have hc := canon_bad s k hlt (by omega)
              go_ret
              exact ⟨ret_bool (by rw [hg.out, hc]), rfl⟩
            · have hb : 48 ≤ (s[k].toNat : Int) ∧ (s[k].toNat : Int) ≤ 57 := by assumption
              go_round
              case rel => exact ⟨k + 1, by omega, by go_num, digs_step s k hlt HD.out (by omega) (by omega)⟩
              case measure => simp [intOf]; omega
            · have hb : (s[k].toNat : Int) < 48 := by assumption
              have hc := canon_bad s k hlt (by omega)
              go_ret
              exact ⟨ret_bool (by rw [hg.out, hc]), rfl⟩
          · have hall : Hid (s.data.toList.all isDig = true) := by
              have := HD.out; rwa [List.take_of_length_le (by simp; omega)] at this
            go_wp2
            go_ret
            exact ⟨ret_bool (by rw [hg.out, hfin.out hall.out]), rfl⟩
    · have hg : Hid (goodB s.data.toList = false) := by
        unfold Hid goodB; rw [hsz]; simp; omega
      clear hsz
      go_enter Tryd.func51, Tryd.ntmps51
      go_wp2
      go_ret
      exact ⟨ret_bool hg.out.symm, rfl⟩
  · have hg : Hid (goodB s.data.toList = false) := by
      unfold Hid goodB; rw [canon_empty s (by omega)]; simp
    clear hsz
    go_enter Tryd.func51, Tryd.ntmps51
    go_wp2
    go_ret
    exact ⟨ret_bool hg.out.symm, rfl⟩
end Go.Proofs.YtmfpnbmfcoahbaaDoor

/-
  What spec.l1Both and spec.l1Compare answer.
-/
namespace Go.Proofs.YtmfpnbmfcoahbaaDoor
open Go.RowKit
set_option linter.unusedVariables false

theorem ret_int {a b : Int} (h : a = b) : Ending.returned (.int .i64 a) = .returned (.int .i64 b) := by rw [h]

/-- The order of two numbers. -/
def cmpI (a b : Int) : Int := if a < b then -1 else if b < a then 1 else 0

theorem cmpI_lt {a b : Int} (h : a < b) : cmpI a b = -1 := by unfold cmpI; rw [if_pos h]
theorem cmpI_gt {a b : Int} (h : b < a) : cmpI a b = 1 := by unfold cmpI; rw [if_neg (by omega), if_pos h]
theorem cmpI_eq {a b : Int} (h : a = b) : cmpI a b = 0 := by unfold cmpI; rw [if_neg (by omega), if_neg (by omega)]
theorem cmpI_bd (a b : Int) : -1 ≤ cmpI a b ∧ cmpI a b ≤ 1 := by unfold cmpI; split <;> (try split) <;> omega

/-! ### Texts in order -/
theorem bytesLess_dval : ∀ (l m : List UInt8), l.all isDig = true → m.all isDig = true → l.length = m.length → Op.bytesLess l m = decide (dval l < dval m)
  | [], [], _, _, _ => by simp [Op.bytesLess, dval]
  | [], _ :: _, _, _, h => by simp at h
  | _ :: _, [], _, _, h => by simp at h
  | a :: x, b :: y, ha, hb, h => by
    simp only [List.all_cons, Bool.and_eq_true] at ha hb
    simp only [List.length_cons, Nat.add_right_cancel_iff] at h
    have ih := bytesLess_dval x y ha.2 hb.2 h
    have h1 := dval_lt x ha.2
    have h2 := dval_lt y hb.2
    have d1 := isDig_bd ha.1
    have d2 := isDig_bd hb.1
    rw [h] at h1
    simp only [Op.bytesLess, ih, dval_cons, h]
    have e1 : (a < b) ↔ a.toNat < b.toNat := UInt8.lt_iff_toNat_lt
    have e2 : (a = b) ↔ a.toNat = b.toNat := UInt8.toNat_inj.symm
    unfold dv
    generalize 10 ^ y.length = T at *
    rw [Bool.eq_iff_iff]
    simp only [Bool.or_eq_true, Bool.and_eq_true, decide_eq_true_eq, beq_iff_eq, e1, e2]
    rcases Nat.lt_trichotomy a.toNat b.toNat with hl | he | hg
    · have : (a.toNat - 48 + 1) * T ≤ (b.toNat - 48) * T := Nat.mul_le_mul_right _ (by omega)
      rw [Nat.add_mul] at this
      constructor
      · intro _; omega
      · intro _; exact .inl hl
    · rw [he]; constructor
      · rintro (h | h)
        · omega
        · omega
      · intro h; exact .inr ⟨rfl, by omega⟩
    · have : (b.toNat - 48 + 1) * T ≤ (a.toNat - 48) * T := Nat.mul_le_mul_right _ (by omega)
      rw [Nat.add_mul] at this
      constructor
      · rintro (h | h) <;> omega
      · intro _; omega

/-- l1Compare on two numbers' texts: the order of the numbers. -/
theorem l1Compare_any (a b : ByteArray) (w : World) (hsa : a.size ≤ maxLen) (hsb : b.size ≤ maxLen) (ha : canonB a.data.toList = true) (hb : canonB b.data.toList = true) :
    Calls Tryd.prog 66 #[.string a, .string b] w fun e w' => e = .returned (.int .i64 (cmpI (dval a.data.toList) (dval b.data.toList))) ∧ w' = w := by
  unfold maxLen at hsa hsb
  have la : a.data.toList.length = a.size := by simp
  have lb : b.data.toList.length = b.size := by simp
  rcases Nat.lt_trichotomy a.size b.size with hl | he | hg
  · have hv := canon_len_lt ha hb (by omega)
    have hc : Hid (cmpI (dval a.data.toList) (dval b.data.toList) = -1) := cmpI_lt (by omega)
    clear la lb hv ha hb
    have h1 : (a.size : Int) < (b.size : Int) := by omega
    go_enter Tryd.func66, Tryd.ntmps66
    go_wp2
    go_ret
    exact ⟨ret_int hc.out.symm, rfl⟩
  · have hB := bytesLess_dval a.data.toList b.data.toList (canon_all ha) (canon_all hb) (by omega)
    have hn : ((a.size : Int) == (b.size : Int)) = true := by rw [beq_iff_eq]; omega
    have hne : ((a.size : Int) != (b.size : Int)) = false := by simp; omega
    rcases Nat.lt_trichotomy (dval a.data.toList) (dval b.data.toList) with h | h | h
    · have hc : Hid (cmpI (dval a.data.toList) (dval b.data.toList) = -1) := cmpI_lt (by omega)
      have hb1 : Op.bytesLess a.toList b.toList = true := by rw [ByteArray.toList_eq, ByteArray.toList_eq, hB]; simpa using h
      clear la lb hB ha hb h he
      go_enter Tryd.func66, Tryd.ntmps66
      go_wp2
      go_ret
      exact ⟨ret_int hc.out.symm, rfl⟩
    · have hc : Hid (cmpI (dval a.data.toList) (dval b.data.toList) = 0) := cmpI_eq (by omega)
      have hb1 : Op.bytesLess a.toList b.toList = false := by rw [ByteArray.toList_eq, ByteArray.toList_eq, hB]; simp; omega
      have hb2 : (a.toList == b.toList) = true := by rw [ByteArray.toList_eq, ByteArray.toList_eq, canon_inj ha hb h]; simp
      clear la lb hB ha hb h he
      go_enter Tryd.func66, Tryd.ntmps66
      go_wp2
      go_ret
      exact ⟨ret_int hc.out.symm, rfl⟩
    · have hc : Hid (cmpI (dval a.data.toList) (dval b.data.toList) = 1) := cmpI_gt (by omega)
      have hb1 : Op.bytesLess a.toList b.toList = false := by rw [ByteArray.toList_eq, ByteArray.toList_eq, hB]; simp; omega
      have hb2 : (a.toList == b.toList) = false := by
        rw [ByteArray.toList_eq, ByteArray.toList_eq, beq_eq_false_iff_ne]; intro e; rw [e] at h; omega
      clear la lb hB ha hb h he
      go_enter Tryd.func66, Tryd.ntmps66
      go_wp2
      go_ret
      exact ⟨ret_int hc.out.symm, rfl⟩
  · have hv := canon_len_lt hb ha (by omega)
    have hc : Hid (cmpI (dval a.data.toList) (dval b.data.toList) = 1) := cmpI_gt (by omega)
    clear la lb hv ha hb
    have h1 : (b.size : Int) < (a.size : Int) := by omega
    go_enter Tryd.func66, Tryd.ntmps66
    go_wp2
    go_ret
    exact ⟨ret_int hc.out.symm, rfl⟩

theorem l1Both_any (a b : ByteArray) (w : World) (hsa : a.size ≤ maxLen) (hsb : b.size ≤ maxLen) :
    Calls Tryd.prog 39 #[.string a, .string b] w fun e w' => e = .returned (.bool (goodB a.data.toList && goodB b.data.toList)) ∧ w' = w := by
  cases hga : goodB a.data.toList with
  | true =>
    have HA : Hid (goodB a.data.toList = true) := hga
    clear hga
    go_enter Tryd.func39, Tryd.ntmps39
    go_wp2_with fail
    refine (specGood_any a _ hsa).mono ?_
    rintro e w' ⟨rfl, rfl⟩
    rw [HA.out]
    go_wp2_with fail
    refine (specGood_any b _ hsb).mono ?_
    rintro e w' ⟨rfl, rfl⟩
    go_wp2
    go_ret
    exact ⟨rfl, rfl⟩
  | false =>
    have HA : Hid (goodB a.data.toList = false) := hga
    clear hga
    go_enter Tryd.func39, Tryd.ntmps39
    go_wp2_with fail
    refine (specGood_any a _ hsa).mono ?_
    rintro e w' ⟨rfl, rfl⟩
    rw [HA.out]
    go_wp2
    go_ret
    exact ⟨rfl, rfl⟩

theorem good_canon {l : List UInt8} (h : goodB l = true) : canonB l = true := by
  simp only [goodB, Bool.and_eq_true] at h; exact h.2
theorem good_len {l : List UInt8} (h : goodB l = true) : l.length ≤ 600 := by
  simp only [goodB, Bool.and_eq_true, decide_eq_true_eq] at h; exact h.1

end Go.Proofs.YtmfpnbmfcoahbaaDoor

/-
  Texts held against each other: plain facts.
-/
namespace Go.Proofs.YtmfpnbmfcoahbaaDoor
open Go.RowKit
set_option linter.unusedVariables false

theorem str_ne {s : ByteArray} {l : List UInt8} (h : s.data.toList ≠ l) : (s.toList == l) = false := by
  rw [ByteArray.toList_eq]; exact beq_eq_false_iff_ne.2 h
theorem str_eq {s : ByteArray} {l : List UInt8} (h : s.data.toList = l) : (s.toList == l) = true := by
  rw [ByteArray.toList_eq, h]; exact beq_self_eq_true l

theorem canon_one {l : List UInt8} (hl : canonB l = true) : dval l = 1 ↔ l = [49] := by
  constructor
  · intro h; exact canon_inj hl (by decide) (by rw [h]; decide)
  · rintro rfl; decide

theorem one_canon : canonB ((⟨#[49]⟩ : ByteArray).data.toList) = true ∧ dval ((⟨#[49]⟩ : ByteArray).data.toList) = 1 := by decide

end Go.Proofs.YtmfpnbmfcoahbaaDoor

/-
  What cmp.Compare at int answers: the order of its two numbers.
-/
namespace Go.Proofs.YtmfpnbmfcoahbaaDoor
open Go.RowKit
set_option linter.unusedVariables false

theorem isNaN_any (x : Int) (w : World) :
    Calls Tryd.prog 88 #[.int .i64 x] w fun e w' => e = .returned (.bool false) ∧ w' = w := by
  go_enter Tryd.func88, Tryd.ntmps88
  go_wp2
  go_ret
  exact ⟨rfl, rfl⟩

theorem cmpCompare_any (x y : Int) (w : World) :
    Calls Tryd.prog 68 #[.int .i64 x, .int .i64 y] w fun e w' => e = .returned (.int .i64 (cmpI x y)) ∧ w' = w := by
  rcases Int.lt_trichotomy x y with h | h | h
  · have hc : Hid (cmpI x y = -1) := cmpI_lt h
    go_enter Tryd.func68, Tryd.ntmps68
    go_wp2_with (go_at_call 88; refine (isNaN_any _ _).mono ?_; rintro e w' ⟨rfl, rfl⟩)
    go_ret
    exact ⟨ret_int hc.out.symm, rfl⟩
  · subst h
    have hc : Hid (cmpI x x = 0) := cmpI_eq rfl
    go_enter Tryd.func68, Tryd.ntmps68
    go_wp2_with (go_at_call 88; refine (isNaN_any _ _).mono ?_; rintro e w' ⟨rfl, rfl⟩)
    go_ret
    exact ⟨ret_int hc.out.symm, rfl⟩
  · have hc : Hid (cmpI x y = 1) := cmpI_gt h
    go_enter Tryd.func68, Tryd.ntmps68
    go_wp2_with (go_at_call 88; refine (isNaN_any _ _).mono ?_; rintro e w' ⟨rfl, rfl⟩)
    go_ret
    exact ⟨ret_int hc.out.symm, rfl⟩

end Go.Proofs.YtmfpnbmfcoahbaaDoor

/-
  What spec.CompareNat answers.
-/
namespace Go.Proofs.YtmfpnbmfcoahbaaDoor
open Go.RowKit
set_option linter.unusedVariables false

/-- What CompareNat should answer. -/
def cmpAns (a b : ByteArray) : Ending := if (goodB a.data.toList && goodB b.data.toList) = true then .returned (.tuple #[.int .i64 (cmpI (dval a.data.toList) (dval b.data.toList)), .bool true]) else .returned (.tuple #[.int .i64 0, .bool false])

theorem cmpAns_yes {a b : ByteArray} (h : (goodB a.data.toList && goodB b.data.toList) = true) : Ending.returned (.tuple #[.int .i64 (cmpI (dval a.data.toList) (dval b.data.toList)), .bool true]) = cmpAns a b := by
  unfold cmpAns; rw [if_pos h]
theorem cmpAns_no {a b : ByteArray} (h : (goodB a.data.toList && goodB b.data.toList) = false) : Ending.returned (.tuple #[.int .i64 0, .bool false]) = cmpAns a b := by
  unfold cmpAns; rw [if_neg (by rw [h]; simp)]

end Go.Proofs.YtmfpnbmfcoahbaaDoor
