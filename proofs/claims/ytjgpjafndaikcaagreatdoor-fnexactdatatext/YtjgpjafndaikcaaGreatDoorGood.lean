/-
  What spec.l1Digits, spec.GoodNat and impl.GoodNat answer: for every text that can be read, whether it is a natural number's text; no memory is turned.
-/
import Derived.Test.YtjgpjafndaikcaaGreatDoorRows
import Derived.Test.YtjgpjafndaikcaaGreatDoorMath
import Derived.WalkKit
import Derived.WalkSpells
import Derived.WalkLawsBesides
namespace Go.Proofs.YtjgpjafndaikcaaGreatDoor
open Go.RowKit
set_option linter.unusedVariables false

theorem ret_bool {a b : Bool} (h : a = b) : Ending.returned (.bool a) = .returned (.bool b) := by rw [h]

theorem int_one (n : Nat) : ((n : Int) == 1) = decide (n = 1) := by
  by_cases h : n = 1
  · subst h; rfl
  · rw [decide_eq_false h, beq_eq_false_iff_ne]; omega

theorem take_snoc (s : ByteArray) (k : Nat) (h : k < s.size) : s.data.toList.take (k + 1) = s.data.toList.take k ++ [s[k]] := by
  rw [List.take_succ_eq_append_getElem (by simpa using h)]; rfl

/-- A byte that is no digit: the text is no number's. -/
theorem canon_bad (s : ByteArray) (k : Nat) (h : k < s.size) (hb : ¬ (48 ≤ s[k].toNat ∧ s[k].toNat ≤ 57)) : canonB s.data.toList = false := by
  unfold canonB
  have : s.data.toList.all isDig = false := by
    rw [List.all_eq_false]
    refine ⟨s[k], ?_, by simpa [isDig] using hb⟩
    have : s.data.toList[k]'(by simpa using h) = s[k] := by simp; rfl
    rw [← this]; exact List.getElem_mem _
  rw [this]; rfl

theorem digs_step (s : ByteArray) (k : Nat) (h : k < s.size) (h0 : (s.data.toList.take k).all isDig = true) (h1 : 48 ≤ s[k].toNat) (h2 : s[k].toNat ≤ 57) : (s.data.toList.take (k + 1)).all isDig = true := by
  rw [take_snoc s k h, List.all_append, h0]; simp [isDig, h1, h2]

/-- Digits alone: what is left to ask. -/
theorem canon_of_all (s : ByteArray) (h : s.data.toList.all isDig = true) (hp : 0 < s.size) : canonB s.data.toList = (!(s[0] == 48) || decide (s.size = 1)) := by
  obtain ⟨⟨l⟩⟩ := s
  cases l with
  | nil => simp [ByteArray.size] at hp
  | cons c m =>
    have e : (ByteArray.mk ⟨c :: m⟩)[0] = c := rfl
    rw [e]
    simp only [canonB, h, Bool.true_and]
    congr 1
    cases m <;> simp [ByteArray.size]

theorem canon_empty (s : ByteArray) (h : s.size = 0) : canonB s.data.toList = false := by
  obtain ⟨⟨l⟩⟩ := s
  cases l with
  | nil => rfl
  | cons c m => simp [ByteArray.size] at h

set_option maxHeartbeats 400000 in
theorem l1Digits_any (s : ByteArray) (w : World) (hs : s.size ≤ maxLen) :
    Calls Tryz.prog 150 #[.string s] w fun e w' => e = .returned (.bool (canonB s.data.toList)) ∧ w' = w := by
  unfold maxLen at hs
  go_enter Tryz.func150, Tryz.ntmps150
  go_wp2
  go_loop [3] (fun i => ∃ k : Nat, k ≤ s.size ∧ i = .int .i64 k ∧ (s.data.toList.take k).all isDig = true) (fun i => s.size - (intOf i).toNat)
  case atStart => exact ⟨0, Nat.zero_le _, rfl, rfl⟩
  case round =>
    obtain ⟨k, hk, rfl, hd⟩ := hrel
    have HD : Hid ((s.data.toList.take k).all isDig = true) := hd
    clear hd
    by_cases hlt : k < s.size
    · go_wp2
      · have hb : (s[k].toNat : Int) < 48 ∨ 57 < (s[k].toNat : Int) := by assumption
        have hc := canon_bad s k hlt (by omega)
        go_ret
        exact ⟨ret_bool hc.symm, rfl⟩
      · have hb : 48 ≤ (s[k].toNat : Int) ∧ (s[k].toNat : Int) ≤ 57 := by assumption
        go_round
        case rel => exact ⟨k + 1, by omega, by go_num, digs_step s k hlt HD.out (by omega) (by omega)⟩
        case measure => simp [intOf]; omega
      · have hb : (s[k].toNat : Int) < 48 := by assumption
        have hc := canon_bad s k hlt (by omega)
        go_ret
        exact ⟨ret_bool hc.symm, rfl⟩
    · have hall : Hid (s.data.toList.all isDig = true) := by
        have := HD.out; rwa [List.take_of_length_le (by simp; omega)] at this
      by_cases hp : 0 < s.size
      · have hc : Hid (canonB s.data.toList = (!(s[0] == 48) || decide (s.size = 1))) := canon_of_all s hall.out hp
        go_wp2
        · have h0 : (s[0].toNat : Int) = 48 := by assumption
          have h1 : s[0] = 48 := UInt8.toNat_inj.1 (by simpa using (by omega : s[0].toNat = 48))
          go_ret
          exact ⟨ret_bool (by rw [hc.out, h1, int_one]; rfl), rfl⟩
        · have h0 : ¬ (s[0].toNat : Int) = 48 := by assumption
          have h1 : (s[0] == 48) = false := by
            rw [beq_eq_false_iff_ne]; intro e; rw [e] at h0; exact h0 rfl
          go_ret
          exact ⟨ret_bool (by rw [hc.out, h1]; rfl), rfl⟩
      · have hc : Hid (canonB s.data.toList = false) := canon_empty s (by omega)
        go_wp2
        go_ret
        exact ⟨ret_bool hc.out.symm, rfl⟩

theorem specGood_any (s : ByteArray) (w : World) (hs : s.size ≤ maxLen) :
    Calls Tryz.prog 116 #[.string s] w fun e w' => e = .returned (.bool (goodB s.data.toList)) ∧ w' = w := by
  have hsz : s.data.toList.length = s.size := by simp
  by_cases h : (s.size : Int) ≤ 600
  · have hg : Hid (goodB s.data.toList = canonB s.data.toList) := by
      unfold Hid goodB; rw [hsz]; simp; omega
    clear hsz
    go_enter Tryz.func116, Tryz.ntmps116
    go_wp2_with (go_at_call 150; refine (l1Digits_any s _ hs).mono ?_; rintro e w' ⟨rfl, rfl⟩)
    go_ret
    exact ⟨ret_bool hg.out.symm, rfl⟩
  · have hg : Hid (goodB s.data.toList = false) := by
      unfold Hid goodB; rw [hsz]; simp; omega
    clear hsz
    go_enter Tryz.func116, Tryz.ntmps116
    go_wp2_with (go_at_call 150; refine (l1Digits_any s _ hs).mono ?_; rintro e w' ⟨rfl, rfl⟩)
    go_ret
    exact ⟨ret_bool hg.out.symm, rfl⟩

set_option maxHeartbeats 400000 in
theorem implGood_any (s : ByteArray) (w : World) (hs : s.size ≤ maxLen) :
    Calls Tryz.prog 180 #[.string s] w fun e w' => e = .returned (.bool (goodB s.data.toList)) ∧ w' = w := by
  unfold maxLen at hs
  have hsz : s.data.toList.length = s.size := by simp
  by_cases h0 : 0 < s.size
  · by_cases h : s.size ≤ 600
    · have hg : Hid (goodB s.data.toList = canonB s.data.toList) := by
        unfold Hid goodB; rw [hsz]; simp; omega
      have hca : Hid (s.data.toList.all isDig = true → canonB s.data.toList = (!(s[0] == 48) || decide (s.size = 1))) := fun h => canon_of_all s h h0
      clear hsz
      by_cases h48 : (s[0].toNat : Int) = 48
      · have h1 : Hid ((s[0] == 48) = true) := by
          unfold Hid; rw [beq_iff_eq]; exact UInt8.toNat_inj.1 (by simpa using (by omega : s[0].toNat = 48))
        by_cases hone : (1 : Int) < (s.size : Int)
        · have hbad : Hid (canonB s.data.toList = false) := by
            cases hall : s.data.toList.all isDig with
            | true => 
              have := hca.out hall; unfold Hid; rw [this, h1.out]; simp; omega
            | false => unfold Hid canonB; rw [hall]; rfl
          go_enter Tryz.func180, Tryz.ntmps180
          go_wp2
          go_ret
          exact ⟨ret_bool (by rw [hg.out, hbad.out]), rfl⟩
        · have hfin : Hid (s.data.toList.all isDig = true → canonB s.data.toList = true) := by
            intro hh; rw [hca.out hh]; simp; omega
          go_enter Tryz.func180, Tryz.ntmps180
          go_wp2
          go_loop [24] (fun i => ∃ k : Nat, k ≤ s.size ∧ i = .int .i64 k ∧ (s.data.toList.take k).all isDig = true) (fun i => s.size - (intOf i).toNat)
          case atStart => exact ⟨0, Nat.zero_le _, rfl, rfl⟩
          case round =>
            obtain ⟨k, hk, rfl, hd⟩ := hrel
            have HD : Hid ((s.data.toList.take k).all isDig = true) := hd
            clear hd
            by_cases hlt : k < s.size
            · go_wp2
              · have hb : (s[k].toNat : Int) < 48 ∨ 57 < (s[k].toNat : Int) := by assumption
                have hc := canon_bad s k hlt (by omega)
                go_ret
                exact ⟨ret_bool (by rw [hg.out, hc]), rfl⟩
              · have hb : 48 ≤ (s[k].toNat : Int) ∧ (s[k].toNat : Int) ≤ 57 := by assumption
                go_round
                case rel => exact ⟨k + 1, by omega, by go_num, digs_step s k hlt HD.out (by omega) (by omega)⟩
                case measure => simp [intOf]; omega
              · have hb : (s[k].toNat : Int) < 48 := by assumption
                have hc := canon_bad s k hlt (by omega)
                go_ret
                exact ⟨ret_bool (by rw [hg.out, hc]), rfl⟩
            · have hall : Hid (s.data.toList.all isDig = true) := by
                have := HD.out; rwa [List.take_of_length_le (by simp; omega)] at this
              go_wp2
              go_ret
              exact ⟨ret_bool (by rw [hg.out, hfin.out hall.out]), rfl⟩
      · have h1 : Hid ((s[0] == 48) = false) := by
          unfold Hid; rw [beq_eq_false_iff_ne]; intro e; rw [e] at h48; exact h48 rfl
        have hfin : Hid (s.data.toList.all isDig = true → canonB s.data.toList = true) := by
          intro hh; rw [hca.out hh, h1.out]; rfl
        go_enter Tryz.func180, Tryz.ntmps180
        go_wp2
        go_loop [24] (fun i => ∃ k : Nat, k ≤ s.size ∧ i = .int .i64 k ∧ (s.data.toList.take k).all isDig = true) (fun i => s.size - (intOf i).toNat)
        case atStart => exact ⟨0, Nat.zero_le _, rfl, rfl⟩
        case round =>
          obtain ⟨k, hk, rfl, hd⟩ := hrel
          have HD : Hid ((s.data.toList.take k).all isDig = true) := hd
          clear hd
          by_cases hlt : k < s.size
          · go_wp2
            · have hb : (s[k].toNat : Int) < 48 ∨ 57 < (s[k].toNat : Int) := by assumption
              have hc := canon_bad s k hlt (by omega)
              go_ret
              exact ⟨ret_bool (by rw [hg.out, hc]), rfl⟩
            · have hb : 48 ≤ (s[k].toNat : Int) ∧ (s[k].toNat : Int) ≤ 57 := by assumption
              go_round
              case rel => exact ⟨k + 1, by omega, by go_num, digs_step s k hlt HD.out (by omega) (by omega)⟩
              case measure => simp [intOf]; omega
            · have hb : (s[k].toNat : Int) < 48 := by assumption
              have hc := canon_bad s k hlt (by omega)
              go_ret
              exact ⟨ret_bool (by rw [hg.out, hc]), rfl⟩
          · have hall : Hid (s.data.toList.all isDig = true) := by
              have := HD.out; rwa [List.take_of_length_le (by simp; omega)] at this
            go_wp2
            go_ret
            exact ⟨ret_bool (by rw [hg.out, hfin.out hall.out]), rfl⟩
    · have hg : Hid (goodB s.data.toList = false) := by
        unfold Hid goodB; rw [hsz]; simp; omega
      clear hsz
      go_enter Tryz.func180, Tryz.ntmps180
      go_wp2
      go_ret
      exact ⟨ret_bool hg.out.symm, rfl⟩
  · have hg : Hid (goodB s.data.toList = false) := by
      unfold Hid goodB; rw [canon_empty s (by omega)]; simp
    clear hsz
    go_enter Tryz.func180, Tryz.ntmps180
    go_wp2
    go_ret
    exact ⟨ret_bool hg.out.symm, rfl⟩
end Go.Proofs.YtjgpjafndaikcaaGreatDoor
