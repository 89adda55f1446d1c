/-
  The texts SpecPow, Symbol, ReadNumA, ReadTerms, ReadNum, GoodNum, DatMath, DatTree, Dat, one behind the other, as one.
-/
import Derived.Test.YtjgpjafndaikcaaGreatDoorTailDataTextA
import Derived.Test.YtjgpjafndaikcaaGreatDoorStr
import Derived.Test.YtjgpjafndaikcaaGreatDoorShelfCut
import Derived.Lib.IndexLaws
import Derived.Test.YtjgpjafndaikcaaGreatDoorCutNum
import Derived.Test.YtjgpjafndaikcaaGreatDoorSpecParts
import Derived.Test.YtjgpjafndaikcaaGreatDoorWhole

/-
  What spec.PowNat answers.
-/
namespace Go.Proofs.YtjgpjafndaikcaaGreatDoor
open Go.RowKit
set_option linter.unusedVariables false

theorem l1In_any (n lo hi : Int) (w : World) :
    Calls Tryz.prog 19 #[.int .i64 n, .int .i64 lo, .int .i64 hi] w fun e w' => e = .returned (.bool (decide (lo ≤ n) && decide (n ≤ hi))) ∧ w' = w := by
  by_cases h : lo ≤ n
  · by_cases h' : n ≤ hi
    · rw [decide_eq_true h, decide_eq_true h']
      go_enter Tryz.func19, Tryz.ntmps19
      go_wp2
      go_ret
      exact ⟨rfl, rfl⟩
    · rw [decide_eq_true h, decide_eq_false h']
      go_enter Tryz.func19, Tryz.ntmps19
      go_wp2
      go_ret
      exact ⟨rfl, rfl⟩
  · rw [decide_eq_false h]
    go_enter Tryz.func19, Tryz.ntmps19
    go_wp2
    go_ret
    exact ⟨rfl, rfl⟩

/-- May a be raised to n? -/
def powOk (a : ByteArray) (n : Int) : Bool := goodB a.data.toList && (decide (0 ≤ n) && decide (n ≤ 2000))

theorem Tells.big {n m : Nat} {e : Ending} (h : Tells n e) (hn : ¬ n < 10 ^ 600) (hm : ¬ m < 10 ^ 600) : Tells m e := by
  obtain ⟨s, rfl, h1, h2⟩ := h
  have := h2 hn
  subst this
  exact ⟨⟨#[]⟩, by rw [decide_eq_false hn, decide_eq_false hm], fun h => absurd h hm, fun _ => rfl⟩

theorem pow_zero_of {A j N : Nat} (h : A ^ j = 0) (hj : j ≤ N) : A ^ N = 0 := by
  have hA : A = 0 ∧ j ≠ 0 := by
    by_cases hA : A = 0
    · refine ⟨hA, fun e => ?_⟩
      subst e; simp at h
    · have := Nat.pow_pos (n := j) (Nat.pos_of_ne_zero hA); omega
  obtain ⟨rfl, hj0⟩ := hA
  exact Nat.zero_pow (by omega)

theorem pow_big_of {A j N : Nat} (B : Nat) (hB : 1 < B) (h : ¬ A ^ j < B) (hj : j ≤ N) : ¬ A ^ N < B := by
  by_cases hA : A = 0
  · subst hA
    by_cases e : j = 0
    · subst e
      simp only [Nat.pow_zero] at h
      by_cases e' : N = 0
      · subst e'; simpa using h
      · omega
    · rw [Nat.zero_pow (by omega)] at h; omega
  · have := Nat.pow_le_pow_right (Nat.pos_of_ne_zero hA) hj
    omega

theorem one_lt_ten (k : Nat) (hk : k ≠ 0) : 1 < 10 ^ k := Nat.one_lt_pow hk (by decide)

theorem pow_tells {A j N : Nat} {e : Ending} (hT : Tells (A ^ j) e) (hj : j ≤ N) (h : j = N ∨ A ^ j = 0 ∨ ¬ A ^ j < 10 ^ 600 ∨ A = 1) : Tells (A ^ N) e := by
  rcases h with rfl | h | h | rfl
  · exact hT
  · rw [pow_zero_of h hj]; rw [h] at hT; exact hT
  · by_cases hA : ¬ A ^ N < 10 ^ 600
    · exact hT.big h hA
    · exact absurd (Decidable.not_not.1 hA) (pow_big_of _ (one_lt_ten 600 (by decide)) h hj)
  · simpa using hT

end Go.Proofs.YtjgpjafndaikcaaGreatDoor

/-
  What a symbol is: plain facts, and what is told of a byte and of a text's bytes.
-/
namespace Go.Proofs.YtjgpjafndaikcaaGreatDoor
open Go.RowKit
set_option linter.unusedVariables false

/-- The signs that may stand in a symbol. -/
def marks : List UInt8 := [33, 36, 37, 38, 42, 47, 58, 60, 61, 62, 63, 94, 95, 126, 43, 45, 46, 64]
def letB (n : Nat) : Bool := ((decide (97 ≤ n) && decide (n ≤ 122)) || (decide (65 ≤ n) && decide (n ≤ 90))) || (decide (48 ≤ n) && decide (n ≤ 57))
def symB (c : UInt8) : Bool := letB c.toNat || marks.contains c
theorem letB_yes {n : Nat} (h : (97 ≤ n ∧ n ≤ 122) ∨ (65 ≤ n ∧ n ≤ 90) ∨ (48 ≤ n ∧ n ≤ 57)) : letB n = true := by
  unfold letB; simp; omega
theorem letB_no {n : Nat} (h : ¬ ((97 ≤ n ∧ n ≤ 122) ∨ (65 ≤ n ∧ n ≤ 90) ∨ (48 ≤ n ∧ n ≤ 57))) : letB n = false := by
  unfold letB; simp; omega
theorem sym_yes {c : UInt8} (h : letB c.toNat = true) : symB c = true := by unfold symB; rw [h]; rfl
theorem sym_no {c : UInt8} (h : letB c.toNat = false) : symB c = marks.contains c := by unfold symB; rw [h]; rfl

theorem index_marks (c : UInt8) : decide (0 ≤ Lib.indexByte marks c) = marks.contains c := by
  by_cases h : 0 ≤ Lib.indexByte marks c
  · obtain ⟨i, hi⟩ : ∃ i : Nat, Lib.indexByte marks c = (i : Int) := ⟨(Lib.indexByte marks c).toNat, by omega⟩
    obtain ⟨h1, _⟩ := Lib.indexByte_some hi
    rw [decide_eq_true h]
    symm
    rw [List.contains_iff_mem]
    exact List.mem_of_getElem? h1
  · have hge := Lib.indexByte_ge marks c
    have h1 : Lib.indexByte marks c = -1 := by omega
    have h2 := Lib.indexByte_none h1
    rw [decide_eq_false h]
    symm
    rw [Bool.eq_false_iff]
    intro hc
    rw [List.contains_iff_mem] at hc
    obtain ⟨i, hi⟩ := List.getElem?_of_mem hc
    exact h2 i hi

set_option maxHeartbeats 1000000 in
set_option maxRecDepth 100000 in
theorem inSymbol_any (c : UInt8) (x : Int) (w : World) (hx : x = (c.toNat : Int)) :
    Calls Tryz.prog 125 #[.int .u8 x] w fun e w' => e = .returned (.bool (symB c)) ∧ w' = w := by
  have HX := hideT' hx
  have hlt : x ≤ 255 := by have := c.toNat_lt; omega
  have h0 : 0 ≤ x := by omega
  cases hl : letB c.toNat with
  | true =>
    have HS := hideT' (sym_yes hl)
    have hr : (97 ≤ x ∧ x ≤ 122) ∨ (65 ≤ x ∧ x ≤ 90) ∨ (48 ≤ x ∧ x ≤ 57) := by
      unfold letB at hl; simp at hl; omega
    clear hl hx
    rcases hr with ⟨h1, h2⟩ | ⟨h1, h2⟩ | ⟨h1, h2⟩
    · go_enter Tryz.func125, Tryz.ntmps125
      go_wp2
      go_ret
      exact ⟨by rw [HS.out]; rfl, rfl⟩
    · have h3 : ¬ 97 ≤ x := by omega
      go_enter Tryz.func125, Tryz.ntmps125
      go_wp2
      go_ret
      exact ⟨by rw [HS.out]; rfl, rfl⟩
    · have h3 : ¬ 97 ≤ x := by omega
      have h4 : ¬ 65 ≤ x := by omega
      go_enter Tryz.func125, Tryz.ntmps125
      go_wp2
      go_ret
      exact ⟨by rw [HS.out]; rfl, rfl⟩
  | false =>
    have HS := hideT' (sym_no hl)
    have hr : (122 < x) ∨ (x < 97 ∧ 90 < x) ∨ (x < 65 ∧ 57 < x) ∨ x < 48 := by
      unfold letB at hl; simp at hl; omega
    have hc : x.toNat.toUInt8 = c := by rw [hx, Int.toNat_natCast]; exact UInt8.ofNat_toNat
    obtain ⟨y, hy⟩ : ∃ y, y = Lib.indexByte marks c := ⟨_, rfl⟩
    have HI : Hid (decide (0 ≤ y) = symB c) := by unfold Hid; rw [HS.out, hy]; exact index_marks c
    have HC : Hid (∀ e : Ending, e = .returned (.int .i64 (Lib.indexByte marks x.toNat.toUInt8)) → e = .returned (.int .i64 y)) := fun e he => by rw [he, hc, hy]
    clear hl hx hc hy HS
    (
      rcases hr with h1 | ⟨h1, h2⟩ | ⟨h1, h2⟩ | h1
      · have g1 : 97 ≤ x := by omega
        have g2 : ¬ x ≤ 122 := by omega
        have g3 : 65 ≤ x := by omega
        have g4 : ¬ x ≤ 90 := by omega
        have g5 : 48 ≤ x := by omega
        have g6 : ¬ x ≤ 57 := by omega
        go_enter Tryz.func125, Tryz.ntmps125
        go_wp2_with fail
        refine (Tryz.strings_IndexByte _ x _).mono ?_
        rintro e w' ⟨he, rfl⟩
        obtain rfl := HC.out e he
        go_wp2
        go_ret
        exact ⟨by rw [← HI.out]; rfl, rfl⟩
      · have g1 : ¬ 97 ≤ x := by omega
        have g3 : 65 ≤ x := by omega
        have g4 : ¬ x ≤ 90 := by omega
        have g5 : 48 ≤ x := by omega
        have g6 : ¬ x ≤ 57 := by omega
        go_enter Tryz.func125, Tryz.ntmps125
        go_wp2_with fail
        refine (Tryz.strings_IndexByte _ x _).mono ?_
        rintro e w' ⟨he, rfl⟩
        obtain rfl := HC.out e he
        go_wp2
        go_ret
        exact ⟨by rw [← HI.out]; rfl, rfl⟩
      · have g1 : ¬ 97 ≤ x := by omega
        have g3 : ¬ 65 ≤ x := by omega
        have g5 : 48 ≤ x := by omega
        have g6 : ¬ x ≤ 57 := by omega
        go_enter Tryz.func125, Tryz.ntmps125
        go_wp2_with fail
        refine (Tryz.strings_IndexByte _ x _).mono ?_
        rintro e w' ⟨he, rfl⟩
        obtain rfl := HC.out e he
        go_wp2
        go_ret
        exact ⟨by rw [← HI.out]; rfl, rfl⟩
      · have g1 : ¬ 97 ≤ x := by omega
        have g3 : ¬ 65 ≤ x := by omega
        have g5 : ¬ 48 ≤ x := by omega
        go_enter Tryz.func125, Tryz.ntmps125
        go_wp2_with fail
        refine (Tryz.strings_IndexByte _ x _).mono ?_
        rintro e w' ⟨he, rfl⟩
        obtain rfl := HC.out e he
        go_wp2
        go_ret
        exact ⟨by rw [← HI.out]; rfl, rfl⟩)

theorem marks_get (k : Nat) (h : k < 18) (h' : k < (⟨#[33, 36, 37, 38, 42, 47, 58, 60, 61, 62, 63, 94, 95, 126, 43, 45, 46, 64]⟩ : ByteArray).size) : (⟨#[33, 36, 37, 38, 42, 47, 58, 60, 61, 62, 63, 94, 95, 126, 43, 45, 46, 64]⟩ : ByteArray)[k] = marks[k]'h := rfl

set_option maxHeartbeats 1000000 in
set_option maxRecDepth 100000 in
theorem l3SymbolByte_any (c : UInt8) (x : Int) (w : World) (hx : x = (c.toNat : Int)) :
    Calls Tryz.prog 37 #[.int .u8 x] w fun e w' => e = .returned (.bool (symB c)) ∧ w' = w := by
  have HX := hideT' hx
  have hlt : x ≤ 255 := by have := c.toNat_lt; omega
  have h0 : 0 ≤ x := by omega
  cases hl : letB c.toNat with
  | true =>
    have HS := hideT' (sym_yes hl)
    have hr : (97 ≤ x ∧ x ≤ 122) ∨ (65 ≤ x ∧ x ≤ 90) ∨ (48 ≤ x ∧ x ≤ 57) := by
      unfold letB at hl; simp at hl; omega
    clear hl hx
    rcases hr with ⟨h1, h2⟩ | ⟨h1, h2⟩ | ⟨h1, h2⟩
    · go_enter Tryz.func37, Tryz.ntmps37
      go_wp2
      go_ret
      exact ⟨by rw [HS.out]; rfl, rfl⟩
    · have h3 : ¬ 97 ≤ x := by omega
      go_enter Tryz.func37, Tryz.ntmps37
      go_wp2
      go_ret
      exact ⟨by rw [HS.out]; rfl, rfl⟩
    · have h3 : ¬ 97 ≤ x := by omega
      have h4 : ¬ 65 ≤ x := by omega
      go_enter Tryz.func37, Tryz.ntmps37
      go_wp2
      go_ret
      exact ⟨by rw [HS.out]; rfl, rfl⟩
  | false =>
    have HS := hideT' (sym_no hl)
    have hr : (122 < x) ∨ (x < 97 ∧ 90 < x) ∨ (x < 65 ∧ 57 < x) ∨ x < 48 := by
      unfold letB at hl; simp at hl; omega
    clear hl hx
    go_enter Tryz.func37, Tryz.ntmps37
    go_upto_region 1 with fail
    go_cut [25] (fun x wx => x = .bool false ∧ wx = w)
    case first =>
      rcases hr with h1 | ⟨h1, h2⟩ | ⟨h1, h2⟩ | h1
      · have g1 : 97 ≤ x := by omega
        have g2 : ¬ x ≤ 122 := by omega
        have g3 : 65 ≤ x := by omega
        have g4 : ¬ x ≤ 90 := by omega
        have g5 : 48 ≤ x := by omega
        have g6 : ¬ x ≤ 57 := by omega
        go_wp2
        go_meet
        case rel => exact ⟨rfl, rfl⟩
      · have g1 : ¬ 97 ≤ x := by omega
        have g3 : 65 ≤ x := by omega
        have g4 : ¬ x ≤ 90 := by omega
        have g5 : 48 ≤ x := by omega
        have g6 : ¬ x ≤ 57 := by omega
        go_wp2
        go_meet
        case rel => exact ⟨rfl, rfl⟩
      · have g1 : ¬ 97 ≤ x := by omega
        have g3 : ¬ 65 ≤ x := by omega
        have g5 : 48 ≤ x := by omega
        have g6 : ¬ x ≤ 57 := by omega
        go_wp2
        go_meet
        case rel => exact ⟨rfl, rfl⟩
      · have g1 : ¬ 97 ≤ x := by omega
        have g3 : ¬ 65 ≤ x := by omega
        have g5 : ¬ 48 ≤ x := by omega
        go_wp2
        go_meet
        case rel => exact ⟨rfl, rfl⟩
    case rest =>
      obtain ⟨rfl, rfl⟩ := hcut
      clear hr
      go_wp2_with fail
      go_loopg [3] 18 (fun g i wr => ∃ k : Nat, g = 18 - k ∧ k ≤ 18 ∧ i = .int .i64 (k : Int) ∧ Hid (∀ j, j < k → marks[j]? ≠ some c) ∧ wr = wc)
      case atStart => exact ⟨0, rfl, by omega, rfl, fun j hj => by omega, rfl⟩
      case round =>
        obtain ⟨k, hg, hk, rfl, HK, rfl⟩ := hrel
        by_cases hk18 : (k : Int) < 18
        · have hk' : k < 18 := by omega
          have hsz : k < (⟨#[33, 36, 37, 38, 42, 47, 58, 60, 61, 62, 63, 94, 95, 126, 43, 45, 46, 64]⟩ : ByteArray).size := hk'
          by_cases hc : marks[k]'hk' = c
          · have hb : ((((⟨#[33, 36, 37, 38, 42, 47, 58, 60, 61, 62, 63, 94, 95, 126, 43, 45, 46, 64]⟩ : ByteArray)[k]'hsz).toNat : Int) == x) = true := by rw [marks_get k hk' hsz, hc, HX.out]; exact beq_self_eq_true _
            have HY : Hid (symB c = true) := by
              unfold Hid
              rw [HS.out, List.contains_iff_mem, ← hc]
              exact List.getElem_mem _
            clear hc
            go_wp2
            go_ret
            exact ⟨by rw [HY.out]; rfl, rfl⟩
          · have hb : ((((⟨#[33, 36, 37, 38, 42, 47, 58, 60, 61, 62, 63, 94, 95, 126, 43, 45, 46, 64]⟩ : ByteArray)[k]'hsz).toNat : Int) == x) = false := by
              rw [marks_get k hk' hsz, beq_eq_false_iff_ne, HX.out]
              intro e
              exact hc (UInt8.toNat_inj.1 (by omega))
            have HK2 : Hid (∀ j, j < k + 1 → marks[j]? ≠ some c) := by
              intro j hj
              by_cases e : j = k
              · subst e; rw [List.getElem?_eq_getElem hk']; intro h; exact hc (by injection h)
              · exact HK.out j (by omega)
            clear hc
            go_wp2
            go_roundg (18 - (k + 1))
            case measure => omega
            case rel => exact ⟨k + 1, rfl, by omega, by go_num, HK2, rfl⟩
        · have HN : Hid (symB c = false) := by
            unfold Hid
            rw [HS.out, Bool.eq_false_iff]
            intro hc
            rw [List.contains_iff_mem] at hc
            obtain ⟨i, hi⟩ := List.getElem?_of_mem hc
            have h18 : i < 18 := by have := (List.getElem?_eq_some_iff.1 hi).1; simpa [marks] using this
            exact HK.out i (by omega) hi
          go_wp2
          go_ret
          exact ⟨by rw [HN.out]; rfl, rfl⟩

/-- A symbol, if it is no number. -/
def symT (l : List UInt8) : Bool := (decide (1 ≤ l.length) && decide (l.length ≤ 30)) && (!(l == [46]) && l.all symB)
/-- Is it a number as ReadNum reads it? -/
def numF (l : List UInt8) : Bool := rdOkN l && (decide (rval (rdRad l) (rdTop l) / Nat.gcd (rval (rdRad l) (rdTop l)) (rval (rdRad l) (rdBot l)) < 10 ^ 600) && decide (rval (rdRad l) (rdBot l) / Nat.gcd (rval (rdRad l) (rdTop l)) (rval (rdRad l) (rdBot l)) < 10 ^ 600))
theorem ReadAns.flag {s : ByteArray} {e : Ending} (h : ReadAns s e) : ∃ t : ByteArray, e = .returned (.tuple #[.string t, .bool (numF s.data.toList)]) := by
  rcases h with ⟨g1, t, rfl, _, _⟩ | ⟨g1, h⟩
  · exact ⟨t, by unfold numF; rw [g1, Bool.true_and]⟩
  · exact ⟨⟨#[]⟩, by unfold numF; rw [g1, Bool.false_and]; exact h⟩
def symOk (l : List UInt8) : Bool := symT l && !numF l

theorem sym_bad {s : ByteArray} (k : Nat) (h : k < s.size) (hb : symB s[k] = false) : s.data.toList.all symB = false := by
  rw [List.all_eq_false]
  exact ⟨s.data.toList[k]'(by simpa using h), List.getElem_mem _, by show ¬ symB s[k] = true; rw [hb]; decide⟩
theorem sym_all {s : ByteArray} (h : ∀ (k : Nat) (hk : k < s.size), symB (s[k]'hk) = true) : s.data.toList.all symB = true := by
  rw [List.all_eq_true]
  intro c hc
  obtain ⟨i, hi, rfl⟩ := List.getElem_of_mem hc
  exact h i (by simpa using hi)

set_option maxHeartbeats 1000000 in
set_option maxRecDepth 100000 in
theorem symbolOrNum_any (s : ByteArray) (w : World) (hs : s.size ≤ maxLen) :
    Calls Tryz.prog 83 #[.string s] w fun e w' => e = .returned (.bool (symT s.data.toList)) ∧ w' = w := by
  unfold maxLen at hs
  have hlen : s.data.toList.length = s.size := by simp
  by_cases h1 : (s.size : Int) < 1
  · have HN : Hid (symT s.data.toList = false) := by unfold Hid symT; rw [hlen, decide_eq_false (show ¬ 1 ≤ s.size by omega)]; rfl
    clear hlen
    go_enter Tryz.func83, Tryz.ntmps83
    go_wp2
    go_ret
    exact ⟨by rw [HN.out]; rfl, rfl⟩
  · by_cases h2 : (30 : Int) < (s.size : Int)
    · have HN : Hid (symT s.data.toList = false) := by unfold Hid symT; rw [hlen, decide_eq_false (show ¬ s.size ≤ 30 by omega), Bool.and_false]; rfl
      clear hlen
      go_enter Tryz.func83, Tryz.ntmps83
      go_wp2
      go_ret
      exact ⟨by rw [HN.out]; rfl, rfl⟩
    · by_cases h3 : s.data.toList = [46]
      · have hd := str_eq h3
        have HN : Hid (symT s.data.toList = false) := by unfold Hid; rw [h3]; rfl
        clear hlen h3
        go_enter Tryz.func83, Tryz.ntmps83
        go_wp2
        go_ret
        exact ⟨by rw [HN.out]; rfl, rfl⟩
      · have hd := str_ne h3
        have HA : Hid (symT s.data.toList = s.data.toList.all symB) := by
          unfold Hid symT
          rw [hlen, decide_eq_true (show 1 ≤ s.size by omega), decide_eq_true (show s.size ≤ 30 by omega), beq_eq_false_iff_ne.2 h3]; simp
        clear hlen h3
        go_enter Tryz.func83, Tryz.ntmps83
        go_wp2_with fail
        go_loopg [18] s.size (fun g i wr => ∃ k : Nat, g = s.size - k ∧ k ≤ s.size ∧ i = .int .i64 (k : Int) ∧ Hid (∀ (j : Nat) (hj : j < s.size), j < k → symB (s[j]'hj) = true) ∧ wr = w)
        case atStart => exact ⟨0, rfl, by omega, rfl, fun j _ hj => by omega, rfl⟩
        case round =>
          obtain ⟨k, hg, hk, rfl, HK, rfl⟩ := hrel
          by_cases hk1 : (k : Int) < (s.size : Int)
          · have hk' : k < s.size := by omega
            go_wp2_with fail
            refine (inSymbol_any (s[k]'hk') _ _ rfl).mono ?_
            rintro e w' ⟨rfl, rfl⟩
            cases hb : symB (s[k]'hk') with
            | true =>
              have HK2 : Hid (∀ (j : Nat) (hj : j < s.size), j < k + 1 → symB (s[j]'hj) = true) := by
                intro j hj hj2
                by_cases e : j = k
                · subst e; exact hb
                · exact HK.out j hj (by omega)
              clear hb
              go_wp2
              go_roundg (s.size - (k + 1))
              case measure => omega
              case rel => exact ⟨k + 1, rfl, by omega, by go_num, HK2, rfl⟩
            | false =>
              have HN : Hid (symT s.data.toList = false) := by unfold Hid; rw [HA.out]; exact sym_bad k hk' hb
              clear hb
              go_wp2
              go_ret
              exact ⟨by rw [HN.out]; rfl, rfl⟩
          · have HN : Hid (symT s.data.toList = true) := by unfold Hid; rw [HA.out]; exact sym_all (fun j hj => HK.out j hj (by omega))
            go_wp2
            go_ret
            exact ⟨by rw [HN.out]; rfl, rfl⟩

set_option maxHeartbeats 1000000 in
set_option maxRecDepth 100000 in
theorem implGoodSymbol_any (s : ByteArray) (w : World) (hs : s.size ≤ maxLen) (hT : Tab w.heap.size w) :
    Calls Tryz.prog 41 #[.string s] w fun e w' => e = .returned (.bool (symOk s.data.toList)) ∧ Below w.heap.size w w' := by
  have HT : Hid (Tab w.heap.size w) := hT
  clear hT
  go_enter Tryz.func41, Tryz.ntmps41
  go_wp2_with fail
  refine (symbolOrNum_any s _ hs).mono ?_
  rintro e w' ⟨rfl, rfl⟩
  cases hb : symT s.data.toList with
  | false =>
    have HN : Hid (symOk s.data.toList = false) := by unfold Hid symOk; rw [hb]; rfl
    clear hb
    go_wp2
    go_ret
    exact ⟨by rw [HN.out]; rfl, Below.refl _ _⟩
  | true =>
    have HN : Hid (symOk s.data.toList = !numF s.data.toList) := by unfold Hid symOk; rw [hb]; rfl
    clear hb
    go_wp2_with fail
    refine (implReadNum_any s _ hs HT.out).mono ?_
    rintro e w2 ⟨hA, hW⟩
    obtain ⟨t, rfl⟩ := hA.flag
    obtain ⟨o, ho⟩ : ∃ o, o = numF s.data.toList := ⟨_, rfl⟩
    rw [← ho] at HN ⊢
    clear hA ho
    go_wp2
    go_ret
    exact ⟨by rw [HN.out]; rfl, hW⟩

set_option maxHeartbeats 1000000 in
set_option maxRecDepth 100000 in
theorem l3Symbol_any (s : ByteArray) (w : World) (hs : s.size ≤ maxLen) :
    Calls Tryz.prog 23 #[.string s] w fun e w' => e = .returned (.bool (symOk s.data.toList)) ∧ Below w.heap.size w w' := by
  have hs' := hs
  unfold maxLen at hs
  go_enter Tryz.func23, Tryz.ntmps23
  go_wp2_with fail
  go_loopg [3] s.size (fun g i wr => ∃ k : Nat, g = s.size - k ∧ k ≤ s.size ∧ i = .int .i64 (k : Int) ∧ Hid (∀ (j : Nat) (hj : j < s.size), j < k → symB (s[j]'hj) = true) ∧ wr = w)
  case atStart => exact ⟨0, rfl, by omega, rfl, fun j _ hj => by omega, rfl⟩
  case round =>
    obtain ⟨k, hg, hk, rfl, HK, rfl⟩ := hrel
    by_cases hk1 : (k : Int) < (s.size : Int)
    · have hk' : k < s.size := by omega
      go_wp2_with fail
      refine (l3SymbolByte_any (s[k]'hk') _ _ rfl).mono ?_
      rintro e w' ⟨rfl, rfl⟩
      cases hb : symB (s[k]'hk') with
      | true =>
        have HK2 : Hid (∀ (j : Nat) (hj : j < s.size), j < k + 1 → symB (s[j]'hj) = true) := by
          intro j hj hj2
          by_cases e : j = k
          · subst e; exact hb
          · exact HK.out j hj (by omega)
        clear hb
        go_wp2
        go_roundg (s.size - (k + 1))
        case measure => omega
        case rel => exact ⟨k + 1, rfl, by omega, by go_num, HK2, rfl⟩
      | false =>
        have HN : Hid (symOk s.data.toList = false) := by
          unfold Hid symOk symT; rw [sym_bad k hk' hb]; simp
        clear hb
        go_wp2
        go_ret
        exact ⟨by rw [HN.out]; rfl, Below.refl _ _⟩
    · have HA := hideT' (sym_all (fun j hj => HK.out j hj (by omega)))
      go_wp2_with fail
      refine (l2Read_any s _ hs').mono ?_
      rintro e w2 ⟨hA, hW⟩
      obtain ⟨t, rfl⟩ := hA.flag
      obtain ⟨o, ho⟩ : ∃ o, o = numF s.data.toList := ⟨_, rfl⟩
      rw [← ho]
      have HN : Hid (symOk s.data.toList = ((decide (1 ≤ (s.size : Int)) && decide ((s.size : Int) ≤ 30)) && !(s.data.toList == [46]) && !o)) := by
        unfold Hid symOk symT
        have hlen : s.data.toList.length = s.size := by simp
        rw [HA.out, ← ho, hlen, Bool.and_true]
        have e1 : decide (1 ≤ s.size) = decide (1 ≤ (s.size : Int)) := decide_eq_decide.2 (by omega)
        have e2 : decide (s.size ≤ 30) = decide ((s.size : Int) ≤ 30) := decide_eq_decide.2 (by omega)
        rw [e1, e2]
      clear hA ho
      go_wp2_with fail
      refine (l1In_any (s.size : Int) 1 30 _).mono ?_
      rintro e w3 ⟨rfl, rfl⟩
      cases h1 : (decide (1 ≤ (s.size : Int)) && decide ((s.size : Int) ≤ 30)) with
      | false =>
        rw [h1] at HN
        clear h1
        go_wp2
        go_ret
        exact ⟨by rw [HN.out]; rfl, hW⟩
      | true =>
        rw [h1] at HN
        clear h1
        cases h3 : (s.data.toList == [46]) with
        | true =>
          rw [h3] at HN
          have hd : (s.toList == [46]) = true := by rw [ByteArray.toList_eq]; exact h3
          clear h3
          go_wp2
          go_ret
          exact ⟨by rw [HN.out]; rfl, hW⟩
        | false =>
          rw [h3] at HN
          have hd : (s.toList == [46]) = false := by rw [ByteArray.toList_eq]; exact h3
          clear h3
          go_wp2
          go_ret
          exact ⟨by rw [HN.out]; rfl, hW⟩

end Go.Proofs.YtjgpjafndaikcaaGreatDoor

/-
  What readNum of impl is made of.
-/
namespace Go.Proofs.YtjgpjafndaikcaaGreatDoor
open Go.RowKit
set_option linter.unusedVariables false

/-- What readNum should hand back. -/
def ReadN (l : List UInt8) (e : Ending) : Prop := ∃ (g : Bool) (k j : Nat) (p q : List Int), e = .returned (.tuple #[.agg (numC g k p j q), .bool (okN l)]) ∧ p.length = 204 ∧ q.length = 204 ∧ (okN l = true → g = negN l ∧ Rep (topN l) k p ∧ Rep (botN l) j q ∧ k ≤ 100 ∧ j ≤ 100 ∧ j ≠ 0)

theorem built_num0 : Tryz.prog.built 87 [] = some (numC false 0 zP 0 zP) := by kernel_rfl
theorem build_num0 {ops : Array Oper} {rest : List Oper} {o : Oper} {a : Act} {w : World} {Q : Exit → Act → World → Prop} (hg : o.guard = none) (ho : o.op = .build 87 #[]) (d : Option Tmp) (hd : o.dst = d)
    (h : wpList Tryz.prog ops Q rest (a.put d (.agg (numC false 0 zP 0 zP))) w) : wpList Tryz.prog ops Q (o :: rest) a w :=
  wpList_buildTo hg 87 #[] ho d hd (numC false 0 zP 0 zP) (by simpa using built_num0) h
theorem res_num_tmp {fn : Func} {x u : Tmp} (h : fn.results = #[.cell x 87, .tmp u]) (tmps : Array Value) (w : World) (b : Nat) (g : Bool) (n : Int) (p : List Int) (m : Int) (q : List Int) (v : Value)
    (hp : tmps.getD x undef = .pointer (some ⟨b, 0, none⟩)) (hv : tmps.getD u undef = v) (hN : NumAt w b g n p m q) (hl : p.length = 204) (hm : q.length = 204) : (results fn tmps).run Tryz.prog w = .ok (.tuple #[.agg (numC g n p m q), v]) w := by
  rw [results_cell_tmp h, hp, hv]
  simp only [asAddr, Sem.run_pure, Result.andThen, run_loadVar_row w b 87 87 (numC g n p m q) (0, 0) _ hN Tryz.underlying87 rfl (num_info g n p m q hl hm)]

theorem run_bw {o : Oper} {a : Act} {w : World} (x y : Operand) (ho : o.op = .build 85 #[(0, x), (1, y)]) (g : Bool) (u : Int) (p : List Int) (hp : p.length = 204) (hx : a.eval x = .bool g) (hy : a.eval y = .agg (natC u p)) :
    (execOp a.eval o).run Tryz.prog w = .ok (.value (.agg (wholeC g u p))) w := by
  have e : (Array.map (fun (i, x) => (i, a.eval x)) #[(0, x), (1, y)]).toList = [(0, a.eval x), (1, a.eval y)] := by simp
  have h := run_build w 85 (Array.map (fun (i, x) => (i, a.eval x)) #[(0, x), (1, y)]) (wholeC g u p) (by rw [e, hx, hy]; exact built_whole g u p hp)
  unfold execOp
  simp only [ho, Sem.run_bind, h, Result.andThen_ok]
  rfl
theorem run_bn {o : Oper} {a : Act} {w : World} (x y : Operand) (ho : o.op = .build 87 #[(0, x), (1, y)]) (g : Bool) (u : Int) (p : List Int) (v : Int) (q : List Int) (hp : p.length = 204) (hq : q.length = 204) (hx : a.eval x = .agg (wholeC g u p)) (hy : a.eval y = .agg (natC v q)) :
    (execOp a.eval o).run Tryz.prog w = .ok (.value (.agg (numC g u p v q))) w := by
  have e : (Array.map (fun (i, x) => (i, a.eval x)) #[(0, x), (1, y)]).toList = [(0, a.eval x), (1, a.eval y)] := by simp
  have h := run_build w 87 (Array.map (fun (i, x) => (i, a.eval x)) #[(0, x), (1, y)]) (numC g u p v q) (by rw [e, hx, hy]; exact built_num g u p v q hp hq)
  unfold execOp
  simp only [ho, Sem.run_bind, h, Result.andThen_ok]
  rfl
theorem run_mv {o : Oper} {a : Act} {w : World} (x : Operand) (ho : o.op = .move x) (v : Value) (hx : a.eval x = v) : (execOp a.eval o).run Tryz.prog w = .ok (.value v) w := by
  unfold execOp
  simp only [ho, hx]
  rfl
/-- The one operation that may come up: a fraction is written whole. -/
theorem held_store_num {ops : Array Oper} {Q : Exit → Act → World → Prop} {md : Region.Mode} {S : World → Prop} {o : Oper} {fuel : Nat} {listed : Array Bool} {a : Act} {w : World} (i : Nat) (hr : Region.ready md ops listed = [i]) (hi : ops[i]? = some o) (hw : Region.wanted o (yielded ops a.tmps) = true) (x y : Operand) (ho : o.op = .store 87 x y) (hd : o.dst = none)
    (b : Nat) (g : Bool) (u : Int) (p : List Int) (v : Int) (q : List Int) (hx : a.eval x = .pointer (some ⟨b, 0, none⟩)) (hy : a.eval y = .agg (numC g u p v q)) (g0 : Bool) (u0 : Int) (p0 : List Int) (v0 : Int) (q0 : List Int) (hN : NumAt w b g0 u0 p0 v0 q0) (h0 : p0.length = 204) (h0' : q0.length = 204) (hl : p.length = 204) (hm : q.length = 204)
    (h : ∀ w', NumAt w' b g u p v q → w.grownBy w' (some b) → w'.heap.size = w.heap.size → S w' ∧ wpAnyH Tryz.prog md ops Q S fuel (listed.setIfInBounds i true) a w') : wpAnyH Tryz.prog md ops Q S (fuel + 1) listed a w := by
  refine wpAnyH_ready hr (by simp) (AllReadyH.cons hi (fun K hK => ?_) AllReadyH.nil)
  rw [if_pos hw]
  refine wp_store_row 87 x y ho b (numC g u p v q) hx hy 87 (numC g0 u0 p0 v0 q0) hN (num_info g u p v q hl hm) (by rw [numC_size, numC_size, h0, hl, h0', hm]) (numC_one _ _ _ _ _) ?_
  rw [hd]
  have := h _ (setRow_heap w b _ _ _ _ hN) ⟨rfl, rfl, rfl, by simp, fun k _ hne => setRow_other w b k _ (by intro e; exact hne (by rw [e]))⟩ (by simp)
  exact hK.out _ _ this.1 (fun _ => this.2)
/-- One of two operations that may come up, a call. -/
theorem ready_call {ops : Array Oper} {Q : Exit → Act → World → Prop} {md : Region.Mode} {S : World → Prop} {o : Oper} {fuel : Nat} {listed : Array Bool} {a : Act} {w : World} {rs : List Nat} (i : Nat) (d : Option Tmp) (hi : ops[i]? = some o) (hw : Region.wanted o (yielded ops a.tmps) = true) (hd : o.dst = d) (f : FuncId) (args : Array Value)
    (he : (execOp a.eval o).run Tryz.prog w = .ok (.enter f args) w) (R : Ending → World → Prop) (hc : Calls Tryz.prog f args w R)
    (h : ∀ e w', R e w' → ∃ v, e = .returned v ∧ S w' ∧ wpAnyH Tryz.prog md ops Q S fuel (listed.setIfInBounds i true) (a.put d v) w') (hs : AllReadyH Tryz.prog md ops Q S fuel listed a w rs) : AllReadyH Tryz.prog md ops Q S fuel listed a w (i :: rs) := by
  subst hd
  refine AllReadyH.cons hi (fun K hK => ?_) hs
  rw [if_pos hw]
  unfold Oper.wp
  rw [he]
  simp only [Oper.upon]
  refine hc.mono ?_
  intro e w' hR
  obtain ⟨v, rfl, hS, hn⟩ := h e w' hR
  exact hK.out _ _ hS (fun _ => hn)
/-- One of the operations that may come up gives a value and changes the world. -/
theorem ready_val {ops : Array Oper} {Q : Exit → Act → World → Prop} {md : Region.Mode} {S : World → Prop} {o : Oper} {fuel : Nat} {listed : Array Bool} {a : Act} {w : World} {rs : List Nat} (i : Nat) (d : Option Tmp) (hi : ops[i]? = some o) (hw : Region.wanted o (yielded ops a.tmps) = true) (hd : o.dst = d) (v : Value) (w' : World)
    (he : (execOp a.eval o).run Tryz.prog w = .ok (.value v) w') (hS : S w') (h : wpAnyH Tryz.prog md ops Q S fuel (listed.setIfInBounds i true) (a.put d v) w') (hs : AllReadyH Tryz.prog md ops Q S fuel listed a w rs) : AllReadyH Tryz.prog md ops Q S fuel listed a w (i :: rs) := by
  subst hd
  refine AllReadyH.cons hi (fun K hK => ?_) hs
  rw [if_pos hw]
  unfold Oper.wp
  rw [he]
  exact hK.out _ _ hS (fun _ => h)


theorem put_ne (a : Act) (i j : Nat) (v : Value) (h : i ≠ j) : (a.put (some i) v).eval (.tmp j) = a.eval (.tmp j) := by
  simp [Act.put, Act.eval, Array.getD_eq_getD_getElem?, Array.getElem?_setIfInBounds_ne h]
theorem put_eq (a : Act) (i : Nat) (v : Value) (h : i < a.tmps.size) : (a.put (some i) v).eval (.tmp i) = v := by
  simp [Act.put, Act.eval, Array.getD_eq_getD_getElem?, h]
theorem put_size (a : Act) (i : Nat) (v : Value) : (a.put (some i) v).tmps.size = a.tmps.size := by simp [Act.put]
theorem put_comm (a : Act) (i j : Nat) (u v : Value) (h : i ≠ j) : (a.put (some i) u).put (some j) v = (a.put (some j) v).put (some i) u := by
  simp only [Act.put]
  congr 1
  exact Array.setIfInBounds_comm u v h

/-- A fraction is made of a whole number and 1, in either order of the call and the new variable. -/
theorem region_make {id : Nat} {Q : Exit → Act → World → Prop} {a : Act} {w4 : World} (ps : String) (g : Bool) (k : Nat) (p : List Int) (hp : p.length = 204) (B3 BR : Nat) (hx : a.eval (.tmp 4) = .bool g) (hy : a.eval (.tmp 8) = .pointer (some ⟨B3, 0, none⟩)) (hsz : 43 ≤ a.tmps.size)
    (hz2 : ∀ w, (zeroValue 87).run Tryz.prog w = .ok (.agg (numC false 0 zP 0 zP)) w) (hN4 : NatAt w4 B3 k p) (A4 : NumAt w4 BR false 0 zP 0 zP)
    (h : ∀ (b0 i : Nat) (r : List Int) (w7 : World), NumAt w7 b0 g k p i r → NatAt w7 B3 k p → NumAt w7 BR false 0 zP 0 zP → Rep 1 i r → w4.heap.size ≤ b0 → b0 < w7.heap.size → Below w4.heap.size w4 w7 →
      Q .normal ((((((a.put (some 38) (.bool g)).put (some 39) (.agg (natC k p))).put (some 40) (.agg (wholeC g k p))).put (some 41) (.agg (natC i r))).put (some 42) (.agg (numC g k p i r))).put (some 10) (.pointer (some ⟨b0, 0, none⟩))) w7) :
    (Code.region id #[{ dst := some 38, op := Op.move (Operand.tmp 4), type := 4, pos := ps, after := #[], guard := none }, { dst := some 39, op := Op.load 83 (Operand.tmp 8), type := 83, pos := ps, after := #[], guard := none }, { dst := some 40, op := Op.build 85 #[(0, Operand.tmp 38), (1, Operand.tmp 39)], type := 85, pos := ps, after := #[{ on := 0, ground := Ground.data }, { on := 1, ground := Ground.data }], guard := none }, { dst := some 41, op := Op.call { callee := Callee.value (Operand.func 135), args := #[Operand.const (Value.int IntKind.i64 1)], argTypes := #[3] }, type := 83, pos := ps, after := #[], guard := none }, { dst := some 42, op := Op.build 87 #[(0, Operand.tmp 40), (1, Operand.tmp 41)], type := 87, pos := ps, after := #[{ on := 2, ground := Ground.data }, { on := 3, ground := Ground.data }], guard := none }, { dst := some 10, op := Op.alloc 87, type := 0, pos := ps, after := #[], guard := none }, { dst := none, op := Op.store 87 (Operand.tmp 10) (Operand.tmp 42), type := 0, pos := ps, after := #[{ on := 5, ground := Ground.data }, { on := 4, ground := Ground.data }, { on := 3, ground := Ground.chain }, { on := 0, ground := Ground.phase }, { on := 1, ground := Ground.phase }, { on := 2, ground := Ground.phase }, { on := 3, ground := Ground.phase }, { on := 4, ground := Ground.phase }, { on := 5, ground := Ground.phase }], guard := none }] true).wp Tryz.prog Q a w4 := by
  have l3 := hN4.lt
  have lR := RowAt.lt A4
  refine held_begin (fun w' => NatAt w' B3 k p ∧ NumAt w' BR false 0 zP 0 zP) (by kernel_rfl) ?_
  have hS : NatAt w4.drew B3 k p ∧ NumAt w4.drew BR false 0 zP 0 zP := ⟨hN4, A4⟩
  refine held_val 0 (some 38) rfl rfl (by kernel_rfl) (by kernel_rfl) (by kernel_rfl) noPanic_put rfl (.bool g) (fun _ => run_mv (.tmp 4) rfl _ hx) hS ?_
  refine held_load 1 (some 39) rfl rfl (by kernel_rfl) (by kernel_rfl) (by kernel_rfl) noPanic_put rfl _ rfl B3 (by rw [put_ne _ _ _ _ (by decide)]; exact hy) k p (fun _ h => h.1) hp hS ?_
  refine held_val 2 (some 40) rfl rfl (by kernel_rfl) (by kernel_rfl) (by kernel_rfl) noPanic_put rfl (.agg (wholeC g k p)) (fun _ => run_bw (.tmp 38) (.tmp 39) rfl g k p hp (by rw [put_ne _ _ _ _ (by decide), put_eq _ _ _ (by omega)]) (by rw [put_eq _ _ _ (by rw [put_size]; omega)])) hS ?_
  refine wpAnyH_ready (rs := [3, 5]) (by kernel_rfl) (by simp) ?_
  refine ready_call 3 (some 41) rfl rfl rfl 135 #[.int .i64 1] (by go_simp) _ (natOf_any 1 1 w4.drew rfl (by omega) (by omega)) ?_ (ready_val 5 (some 10) rfl rfl rfl (.pointer (some ⟨w4.heap.size, 0, none⟩)) (w4.drew.alloc (.cells (numC false 0 zP 0 zP) 87)) (by go_simp) ?_ ?_ AllReadyH.nil)
  · rintro e w5 ⟨i, r, rfl, hR, hW5⟩
    have hW5 : Below w4.heap.size w4 w5 := ⟨hW5.os, hW5.tape, hW5.output, hW5.size, hW5.block⟩
    have hr := hR.len
    have hs5 := hW5.size
    have hS5 : NatAt w5 B3 k p ∧ NumAt w5 BR false 0 zP 0 zP := ⟨hN4.below hW5 (by omega), RowAt.below A4 hW5 (by omega)⟩
    refine ⟨_, rfl, hS5, ?_⟩
    refine held_val 4 (some 42) rfl rfl (by kernel_rfl) (by kernel_rfl) (by kernel_rfl) noPanic_put rfl (.agg (numC g k p i r)) (fun _ => run_bn (.tmp 40) (.tmp 41) rfl g k p i r hp hr (by rw [put_ne _ _ _ _ (by decide), put_eq _ _ _ (by simp only [put_size]; omega)]) (by rw [put_eq _ _ _ (by simp only [put_size]; omega)])) hS5 ?_
    refine wpAnyH_ready (rs := [5]) (by kernel_rfl) (by simp) ?_
    have hS6 : NatAt (w5.alloc (.cells (numC false 0 zP 0 zP) 87)) B3 k p ∧ NumAt (w5.alloc (.cells (numC false 0 zP 0 zP) 87)) BR false 0 zP 0 zP := ⟨hS5.1.old _, RowAt.old hS5.2 _⟩
    refine ready_val 5 (some 10) rfl rfl rfl (.pointer (some ⟨w5.heap.size, 0, none⟩)) (w5.alloc (.cells (numC false 0 zP 0 zP) 87)) (by go_simp) hS6 ?_ AllReadyH.nil
    refine held_store_num 6 (by kernel_rfl) rfl rfl (.tmp 10) (.tmp 42) rfl rfl w5.heap.size g k p i r (by rw [put_eq _ _ _ (by simp only [put_size]; omega)]) (by rw [put_ne _ _ _ _ (by decide), put_eq _ _ _ (by simp only [put_size]; omega)]) false 0 zP 0 zP (NumAt.new w5 false 0 zP 0 zP) zP_len zP_len hp hr ?_
    intro w7 hN7 hg7 hs7
    have N7 : NatAt w7 B3 k p := hS6.1.grown hg7 (by simp; omega)
    have A7 : NumAt w7 BR false 0 zP 0 zP := RowAt.grown hS6.2 hg7 (by simp; omega)
    refine ⟨⟨N7, A7⟩, ?_⟩
    refine wpAnyH_done (by kernel_rfl) ?_ _
    refine NoPanic.normal ?_
    exact h w5.heap.size i r w7 hN7 N7 A7 hR hs5 (by rw [hs7]; simp) ((hW5.alloc hs5 _).grown hg7 (by simp; omega) (by intro k hk; cases hk; omega))
  · exact ⟨hN4.old _, RowAt.old A4 _⟩
  · have hS5 : NatAt (w4.drew.alloc (.cells (numC false 0 zP 0 zP) 87)) B3 k p ∧ NumAt (w4.drew.alloc (.cells (numC false 0 zP 0 zP) 87)) BR false 0 zP 0 zP := ⟨hN4.old _, RowAt.old A4 _⟩
    have M5 : NumAt (w4.drew.alloc (.cells (numC false 0 zP 0 zP) 87)) w4.heap.size false 0 zP 0 zP := NumAt.new w4.drew false 0 zP 0 zP
    refine held_call 3 (some 41) (by kernel_rfl) rfl rfl rfl 135 #[.int .i64 1] (by go_simp) _ (natOf_any 1 1 _ rfl (by omega) (by omega)) ?_
    rintro e w6 ⟨i, r, rfl, hR, hW6⟩
    have hr := hR.len
    have hs6 := hW6.size
    have hsz' : (w4.drew.alloc (.cells (numC false 0 zP 0 zP) 87)).heap.size = w4.heap.size + 1 := by simp
    have hS6 : NatAt w6 B3 k p ∧ NumAt w6 BR false 0 zP 0 zP := ⟨hS5.1.below hW6 (by omega), RowAt.below hS5.2 hW6 (by omega)⟩
    have M6 : NumAt w6 w4.heap.size false 0 zP 0 zP := RowAt.below M5 hW6 (by omega)
    have hB6 : Below w4.heap.size w4 w6 := (((Below.refl w4.heap.size w4).drew).alloc (Nat.le_refl _) _).trans (hW6.mono (by omega))
    refine ⟨_, rfl, hS6, ?_⟩
    refine held_val 4 (some 42) rfl rfl (by kernel_rfl) (by kernel_rfl) (by kernel_rfl) noPanic_put rfl (.agg (numC g k p i r)) (fun _ => run_bn (.tmp 40) (.tmp 41) rfl g k p i r hp hr (by rw [put_ne _ _ _ _ (by decide), put_ne _ _ _ _ (by decide), put_eq _ _ _ (by simp only [put_size]; omega)]) (by rw [put_eq _ _ _ (by simp only [put_size]; omega)])) hS6 ?_
    refine held_store_num 6 (by kernel_rfl) rfl rfl (.tmp 10) (.tmp 42) rfl rfl w4.heap.size g k p i r (by rw [put_ne _ _ _ _ (by decide), put_ne _ _ _ _ (by decide), put_eq _ _ _ (by simp only [put_size]; omega)]) (by rw [put_eq _ _ _ (by simp only [put_size]; omega)]) false 0 zP 0 zP M6 zP_len zP_len hp hr ?_
    intro w7 hN7 hg7 hs7
    have N7 : NatAt w7 B3 k p := hS6.1.grown hg7 (by simp; omega)
    have A7 : NumAt w7 BR false 0 zP 0 zP := RowAt.grown hS6.2 hg7 (by simp; omega)
    refine ⟨⟨N7, A7⟩, ?_⟩
    refine wpAnyH_done (by kernel_rfl) ?_ _
    refine NoPanic.normal ?_
    have := h w4.heap.size i r w7 hN7 N7 A7 hR (Nat.le_refl _) (by omega) (hB6.grown hg7 (by omega) (by intro k hk; cases hk; omega))
    rw [put_comm _ 42 10 _ _ (by decide), put_comm _ 41 10 _ _ (by decide)] at this
    exact this
end Go.Proofs.YtjgpjafndaikcaaGreatDoor

/-
  What readTerms of impl answers.
-/
namespace Go.Proofs.YtjgpjafndaikcaaGreatDoor
open Go.RowKit
set_option linter.unusedVariables false

/-- Is it a number but for lowest terms? -/
def okT (l : List UInt8) : Bool := (goodB (overN l) && !(negN l && decide (dval (overN l) = 0))) && (!brokenN l || (goodB (underN l) && (decide (dval (underN l) ≠ 0) && decide (dval (underN l) ≠ 1))))
/-- What readTerms should hand back. -/
def ReadT (l : List UInt8) (e : Ending) : Prop := ∃ (g : Bool) (k j : Nat) (p q : List Int), e = .returned (.tuple #[.agg (numC g k p j q), .bool (okT l)]) ∧ p.length = 204 ∧ q.length = 204 ∧ (okT l = true → g = negN l ∧ Rep (topN l) k p ∧ Rep (botN l) j q ∧ k ≤ 100 ∧ j ≤ 100 ∧ j ≠ 0)

theorem okN_eq (l : List UInt8) : okN l = (okT l && (decide (botN l = 1) || decide (Nat.gcd (topN l) (botN l) = 1))) := by
  unfold okN okT botN topN
  cases brokenN l with
  | false => simp
  | true =>
    simp only [Bool.not_true, Bool.false_or, if_true]
    by_cases h1 : dval (underN l) = 1
    · simp [h1]
    · by_cases h0 : dval (underN l) = 0
      · simp [h0]
      · simp [h0, h1, Bool.and_assoc]

theorem run_row_num {o : Oper} {a : Act} {w : World} (x : Operand) (ho : o.op = .load 87 x) (b : Nat) (hx : a.eval x = .pointer (some ⟨b, 0, none⟩)) (g : Bool) (u : Int) (p : List Int) (v : Int) (q : List Int) (hN : NumAt w b g u p v q) (hl : p.length = 204) (hm : q.length = 204) :
    (execOp a.eval o).run Tryz.prog w = .ok (.value (.agg (numC g u p v q))) w := by
  unfold execOp
  simp only [ho, hx, Instr.loadAt, Instr.sureAddr, Sem.run_bind, Sem.run_pure, Result.andThen_ok, run_loadVar_row w b 87 87 (numC g u p v q) (0, 0) _ hN Tryz.underlying87 rfl (num_info g u p v q hl hm)]

theorem one_lt' (k : Nat) (hk : k ≠ 0) : 1 < 10 ^ k := Nat.one_lt_pow hk (by decide)
theorem good_lt' {l : List UInt8} (h : goodB l = true) : dval l < 10 ^ 600 := (canon_len_le (good_canon h) 600 (by omega)).1 (good_len h)

set_option maxHeartbeats 6000000 in
set_option maxRecDepth 100000 in
theorem readTerms_any (s : ByteArray) (w : World) (hs : s.size ≤ maxLen) :
    Calls Tryz.prog 121 #[.string s] w fun e w' => ReadT s.data.toList e ∧ Below w.heap.size w w' := by
  have hz := zero_nat.1
  have hz1 := zero_whole.1
  have hz2 := zero_num.1
  have A := NumAt.new w false 0 zP 0 zP
  have hB : Below w.heap.size w (w.alloc (.cells (numC false 0 zP 0 zP) 87)) := (Below.refl _ _).alloc (Nat.le_refl _) _
  go_enter Tryz.func121, Tryz.ntmps121
  go_wp2_with fail
  refine (cutPrefix_any s _ hs).mono ?_
  rintro e w1 ⟨t, rfl, ht, rfl⟩
  have hts : t.size ≤ maxLen := by
    have h1 : t.data.toList.length = t.size := by simp
    have h2 : s.data.toList.length = s.size := by simp
    have : (bodyN s.data.toList).length ≤ s.data.toList.length := by unfold bodyN; split <;> simp
    rw [← ht] at this; omega
  have HTT := hide ht
  clear ht
  go_wp2_with fail
  refine (cut_any t _ hts).mono ?_
  rintro e w2 ⟨o, u, rfl, ho, hu, hW2⟩
  rw [HTT.out] at ho hu ⊢
  have hcs := cut_size (bodyN s.data.toList)
  have hos : o.size ≤ maxLen := by
    have h1 : o.data.toList.length = o.size := by simp
    have h2 : t.data.toList.length = t.size := by simp
    rw [HTT.out] at h2
    rw [ho] at h1; omega
  have hus : u.size ≤ maxLen := by
    have h1 : u.data.toList.length = u.size := by simp
    have h2 : t.data.toList.length = t.size := by simp
    rw [HTT.out] at h2
    rw [hu] at h1; omega
  have HO : Hid (o.data.toList = overN s.data.toList ∧ u.data.toList = underN s.data.toList) := ⟨ho, hu⟩
  obtain ⟨bk, hbk⟩ : ∃ bk, bk = (cut47 (bodyN s.data.toList)).2.2 := ⟨_, rfl⟩
  rw [← hbk]
  have HBK : Hid (bk = brokenN s.data.toList) := hbk
  obtain ⟨ng, hng⟩ : ∃ ng, ng = negN s.data.toList := ⟨_, rfl⟩
  rw [← hng]
  have HNG := hide hng
  have A2 : NumAt w2 w.heap.size false 0 zP 0 zP := A.below hW2 (by simp)
  have hB2 : Below w.heap.size w w2 := hB.trans (hW2.mono (by simp))
  have hs2 := hW2.size
  simp only [World.size_alloc] at hs2
  clear ho hu hcs hbk hng A hB hW2 HTT
  go_wp2_with fail
  refine (readNat_any o _ hos).mono ?_
  rintro e w3 ⟨k, p, oa, rfl, hRa, hW3⟩
  have hp := hRa.len
  have hs3 := hW3.size
  have A3 : NumAt w3 w.heap.size false 0 zP 0 zP := A2.below hW3 (by omega)
  have hB3 : Below w.heap.size w w3 := hB2.trans (hW3.mono (by omega))
  have F := NatAt.new w3 0 zP
  clear A2 hB2 hW3
  -- no number
  have NO : Hid (okT s.data.toList = false → ReadT s.data.toList (.returned (.tuple #[.agg (numC false 0 zP 0 zP), .bool false]))) := fun h => ⟨false, 0, 0, zP, zP, by rw [h]; rfl, zP_len, zP_len, fun h' => by rw [h] at h'; cases h'⟩
  have hok : oa = goodB (overN s.data.toList) := by rw [← HO.out.1]; exact hRa.ok
  cases hg : oa with
  | false =>
    subst hg
    have HN : Hid (okT s.data.toList = false) := by unfold Hid okT; rw [← hok]; rfl
    clear hok hRa
    go_wp2_with (first | (refine store_nat rfl _ _ rfl rfl w3.heap.size k p rfl rfl 0 zP F zP_len hp ?_; intro w4 hN4 hg4 hs4; have c0 := hN4.c0; have A4 : NumAt w4 w.heap.size false 0 zP 0 zP := (RowAt.old A3 (.cells (natC 0 zP) 83)).grown hg4 (by first | (simp; done) | (simp; omega))) | (refine build_num0 rfl rfl _ rfl ?_) | (refine store_num rfl _ _ rfl rfl w.heap.size false 0 zP 0 zP rfl rfl false 0 zP 0 zP A4 zP_len zP_len zP_len zP_len ?_; intro w5 hN5 hg5 hs5))
    refine bodyPost_ret (v := .tuple #[.agg (numC false 0 zP 0 zP), .bool false]) (res_num_tmp Tryz.results121 _ _ w.heap.size _ _ _ _ _ _ rfl rfl hN5 zP_len zP_len) rfl ⟨NO.out HN.out, ?_⟩
    exact ((hB3.alloc (by omega) _).grown hg4 (by first | (simp; done) | (simp; omega)) (by intro k hk; cases hk; omega)).grown hg5 (by rw [hs4]; simp; omega) (by intro k hk; cases hk; omega)
  | true =>
    subst hg
    have hgo : goodB o.data.toList = true := by rw [HO.out.1]; exact hok.symm
    have ra : Rep (topN s.data.toList) k p := by unfold topN; rw [← HO.out.1]; exact hRa.rep hgo
    have hk : k ≤ 100 := by
      have h1 : topN s.data.toList < 10 ^ 600 := by unfold topN; rw [← HO.out.1]; exact good_lt' hgo
      exact ra.fits.2 h1
    have RA := hide ra
    have HGO : Hid (goodB (overN s.data.toList) = true) := hok.symm
    clear hok hRa hgo ra
    by_cases hbad : ng = true ∧ k = 0
    · have HN : Hid (okT s.data.toList = false) := by
        unfold Hid okT
        have h0 : dval (overN s.data.toList) = 0 := RA.out.zero_iff.1 hbad.2
        rw [HGO.out, ← HNG.out, hbad.1, h0]; rfl
      obtain ⟨h1, h2⟩ := hbad
      have h2' : ((k : Int) == 0) = true := by simp [h2]
      subst h1
      clear h2
      go_wp2_with (first | (refine store_nat rfl _ _ rfl rfl w3.heap.size k p rfl rfl 0 zP F zP_len hp ?_; intro w4 hN4 hg4 hs4; have c0 := hN4.c0; have A4 : NumAt w4 w.heap.size false 0 zP 0 zP := (RowAt.old A3 (.cells (natC 0 zP) 83)).grown hg4 (by first | (simp; done) | (simp; omega))) | (refine build_num0 rfl rfl _ rfl ?_) | (refine store_num rfl _ _ rfl rfl w.heap.size false 0 zP 0 zP rfl rfl false 0 zP 0 zP A4 zP_len zP_len zP_len zP_len ?_; intro w5 hN5 hg5 hs5))
      refine bodyPost_ret (v := .tuple #[.agg (numC false 0 zP 0 zP), .bool false]) (res_num_tmp Tryz.results121 _ _ w.heap.size _ _ _ _ _ _ rfl rfl hN5 zP_len zP_len) rfl ⟨NO.out HN.out, ?_⟩
      exact ((hB3.alloc (by omega) _).grown hg4 (by first | (simp; done) | (simp; omega)) (by intro k hk; cases hk; omega)).grown hg5 (by rw [hs4]; simp; omega) (by intro k hk; cases hk; omega)
    · have HSG : Hid ((goodB (overN s.data.toList) && !(negN s.data.toList && decide (dval (overN s.data.toList) = 0))) = true) := by
        unfold Hid
        rw [HGO.out, ← HNG.out]
        cases ng with
        | false => rfl
        | true =>
          have : dval (overN s.data.toList) ≠ 0 := fun e => hbad ⟨rfl, RA.out.zero_iff.2 e⟩
          simp [this]
      have hbad' : ng = false ∨ ((k : Int) == 0) = false := by
        cases ng with
        | false => exact .inl rfl
        | true => right; rw [beq_eq_false_iff_ne]; intro e; exact hbad ⟨rfl, by omega⟩
      clear hbad
      cases ng with
      | false =>
        clear hbad'
        go_wp2_with (refine store_nat rfl _ _ rfl rfl w3.heap.size k p rfl rfl 0 zP F zP_len hp ?_; intro w4 hN4 hg4 hs4; have c0 := hN4.c0)
        have hs4' : w4.heap.size = w3.heap.size + 1 := by rw [hs4]; simp
        have A4 : NumAt w4 w.heap.size false 0 zP 0 zP := (RowAt.old A3 (.cells (natC 0 zP) 83)).grown hg4 (by first | (simp; done) | (simp; omega))
        have hB4 : Below w.heap.size w w4 := (hB3.alloc (by omega) _).grown hg4 (by first | (simp; done) | (simp; omega)) (by intro k hk; cases hk; omega)
        clear A3 hB3 F hg4 hs4 c0
        refine region_make "l2_num.go:164" false k p hp w3.heap.size w.heap.size rfl rfl (by simp) hz2 hN4 A4 ?_
        intro b0 i r w7 hN7 N7 A7 hR hb0 hlt7 hW7
        have hr := hR.len
        have hB7 : Below w.heap.size w w7 := hB4.trans (hW7.mono hB4.size)
        have hb3 : w3.heap.size < b0 := by omega
        have hsB4 := hB4.size
        clear hN4 A4 hB4 hW7
        simp only [Act.put, List.setIfInBounds_toArray, List.set_cons_zero, List.set_cons_succ]
        have hi := (hR.fits.2 (one_lt' 600 (by decide)))
        have hi0 : i ≠ 0 := fun e => by have := hR.zero_iff.1 e; omega
        have HR1 := hide hR
        clear hR
        cases bk with
        | false =>
          have HN : Hid (okT s.data.toList = true) := by unfold Hid okT; rw [HSG.out, ← HBK.out]; rfl
          have HRD : Hid (ReadT s.data.toList (.returned (.tuple #[.agg (numC false k p i r), .bool true]))) := ⟨false, k, i, p, r, by rw [HN.out], hp, hr, fun _ => ⟨HNG.out, RA.out, by unfold botN; rw [← HBK.out]; exact HR1.out, hk, hi, hi0⟩⟩
          go_wp2_with (first | (refine load_num rfl _ rfl b0 rfl false k p i r hN7 hp hr ?_) | (refine store_num rfl _ _ rfl rfl w.heap.size false k p i r rfl rfl false 0 zP 0 zP A7 zP_len zP_len hp hr ?_; intro w8 hN8 hg8 hs8))
          refine bodyPost_ret (v := .tuple #[.agg (numC false k p i r), .bool true]) (res_num_tmp Tryz.results121 _ _ w.heap.size _ _ _ _ _ _ rfl rfl hN8 hp hr) rfl ⟨HRD.out, ?_⟩
          exact hB7.grown hg8 (by have := hB7.size; omega) (by intro k hk; cases hk; omega)
        | true =>
          go_wp2_with fail
          refine (readNat_any u _ hus).mono ?_
          rintro e w8 ⟨m, q, ob, rfl, hRb, hW8⟩
          have hq := hRb.len
          have hs8 := hW8.size
          have A8 : NumAt w8 w.heap.size false 0 zP 0 zP := A7.below hW8 (by omega)
          have M8 : NumAt w8 b0 false k p i r := hN7.below hW8 hlt7
          have hB8 : Below w.heap.size w w8 := hB7.trans (hW8.mono hB7.size)
          clear A7 N7 hN7 hB7 hW8
          have hokb : ob = goodB (underN s.data.toList) := by rw [← HO.out.2]; exact hRb.ok
          cases hob : ob with
          | false =>
            subst hob
            have HN : Hid (okT s.data.toList = false) := by unfold Hid okT; rw [← HBK.out, ← hokb, HSG.out]; rfl
            clear hokb hRb
            go_wp2_with (refine store_bottom rfl _ _ rfl rfl b0 m q rfl rfl false k p i r M8 hp hr hq ?_; intro w9 M9 hg9 hs9)
            have A9 : NumAt w9 w.heap.size false 0 zP 0 zP := RowAt.grown A8 hg9 (by simp; omega)
            have hB9 : Below w.heap.size w w9 := hB8.grown hg9 (by have := hB8.size; omega) (by intro k hk; cases hk; omega)
            have hlt9 := M9.lt
            have hltA := A9.lt
            have hwb : w.heap.size < b0 := by omega
            clear A8 M8 hB8 hg9
            refine held_begin (fun w' => NumAt w' b0 false k p m q ∧ True) (by kernel_rfl) ?_
            have hS : NumAt w9.drew b0 false k p m q ∧ True := ⟨M9, trivial⟩
            refine held_valS 0 (some 52) rfl rfl (by kernel_rfl) (by kernel_rfl) (by kernel_rfl) noPanic_put rfl (.agg (numC false k p m q)) (fun _ h => run_row_num _ rfl b0 rfl false k p m q h.1 hp hq) hS ?_
            simp only [Act.put, List.setIfInBounds_toArray, List.set_cons_zero, List.set_cons_succ]
            refine held_valS 1 (some 53) rfl rfl (by kernel_rfl) (by kernel_rfl) (by kernel_rfl) noPanic_put rfl (.bool false) (fun _ _ => by go_simp) hS ?_
            simp only [Act.put, List.setIfInBounds_toArray, List.set_cons_zero, List.set_cons_succ]
            refine held_valS 2 (some 54) rfl rfl (by kernel_rfl) (by kernel_rfl) (by kernel_rfl) noPanic_put rfl (.bool false) (fun _ _ => by go_simp) hS ?_
            simp only [Act.put, List.setIfInBounds_toArray, List.set_cons_zero, List.set_cons_succ]
            refine held_skip 3 (some 55) rfl rfl (by kernel_rfl) (by kernel_rfl) (by kernel_rfl) noPanic_put rfl hS ?_
            simp only [Act.put, List.setIfInBounds_toArray, List.set_cons_zero, List.set_cons_succ]
            refine held_skip 4 (some 56) rfl rfl (by kernel_rfl) (by kernel_rfl) (by kernel_rfl) noPanic_put rfl hS ?_
            simp only [Act.put, List.setIfInBounds_toArray, List.set_cons_zero, List.set_cons_succ]
            refine held_skip 5 (some 57) rfl rfl (by kernel_rfl) (by kernel_rfl) (by kernel_rfl) noPanic_put rfl hS ?_
            simp only [Act.put, List.setIfInBounds_toArray, List.set_cons_zero, List.set_cons_succ]
            refine held_skip 6 (some 58) rfl rfl (by kernel_rfl) (by kernel_rfl) (by kernel_rfl) noPanic_put rfl hS ?_
            simp only [Act.put, List.setIfInBounds_toArray, List.set_cons_zero, List.set_cons_succ]
            refine held_valS 7 (some 59) rfl rfl (by kernel_rfl) (by kernel_rfl) (by kernel_rfl) noPanic_put rfl (.bool false) (fun _ _ => by go_simp) hS ?_
            simp only [Act.put, List.setIfInBounds_toArray, List.set_cons_zero, List.set_cons_succ]
            refine held_valS 8 (some 60) rfl rfl (by kernel_rfl) (by kernel_rfl) (by kernel_rfl) noPanic_put rfl (.bool false) (fun _ _ => by go_simp) hS ?_
            simp only [Act.put, List.setIfInBounds_toArray, List.set_cons_zero, List.set_cons_succ]
            refine held_skip 9 (some 61) rfl rfl (by kernel_rfl) (by kernel_rfl) (by kernel_rfl) noPanic_put rfl hS ?_
            simp only [Act.put, List.setIfInBounds_toArray, List.set_cons_zero, List.set_cons_succ]
            refine held_skip 10 (some 62) rfl rfl (by kernel_rfl) (by kernel_rfl) (by kernel_rfl) noPanic_put rfl hS ?_
            simp only [Act.put, List.setIfInBounds_toArray, List.set_cons_zero, List.set_cons_succ]
            refine held_skip 11 (some 63) rfl rfl (by kernel_rfl) (by kernel_rfl) (by kernel_rfl) noPanic_put rfl hS ?_
            simp only [Act.put, List.setIfInBounds_toArray, List.set_cons_zero, List.set_cons_succ]
            refine held_valS 12 (some 64) rfl rfl (by kernel_rfl) (by kernel_rfl) (by kernel_rfl) noPanic_put rfl (.bool false) (fun _ _ => by go_simp) hS ?_
            simp only [Act.put, List.setIfInBounds_toArray, List.set_cons_zero, List.set_cons_succ]
            refine held_store_num 13 (by kernel_rfl) rfl rfl (.tmp 2) (.tmp 52) rfl rfl w.heap.size false k p m q rfl rfl false 0 zP 0 zP A9 zP_len zP_len hp hq ?_
            intro wf hNf hgf hsf
            refine ⟨⟨RowAt.grown hS.1 hgf (by simp; omega), trivial⟩, ?_⟩
            refine held_assign 14 (some 3) (by kernel_rfl) rfl rfl _ rfl rfl _ rfl ⟨RowAt.grown hS.1 hgf (by simp; omega), trivial⟩ ?_
            simp only [Act.put, List.setIfInBounds_toArray, List.set_cons_zero, List.set_cons_succ]
            refine wpAnyH_done (by kernel_rfl) ?_ _
            refine NoPanic.normal ?_
            go_wp2
            refine bodyPost_ret (v := .tuple #[.agg (numC false k p m q), .bool false]) (res_num_tmp Tryz.results121 _ _ w.heap.size _ _ _ _ _ _ rfl rfl hNf hp hq) rfl ⟨?_, ?_⟩
            · exact ⟨false, k, m, p, q, by rw [HN.out], hp, hq, fun h => by rw [HN.out] at h; cases h⟩
            · exact hB9.drew.grown hgf (by have := hB9.size; simp; omega) (by intro k hk; cases hk; omega)
          | true =>
            subst hob
            have hgu : goodB u.data.toList = true := by rw [HO.out.2]; exact hokb.symm
            have rb : Rep (dval (underN s.data.toList)) m q := by rw [← HO.out.2]; exact hRb.rep hgu
            have hm : m ≤ 100 := by
              have h1 : dval (underN s.data.toList) < 10 ^ 600 := by rw [← HO.out.2]; exact good_lt' hgu
              exact rb.fits.2 h1
            have RB := hide rb
            have HGU : Hid (goodB (underN s.data.toList) = true) := hokb.symm
            clear hokb hRb hgu rb
            by_cases hm0 : m = 0
            · have HN : Hid (okT s.data.toList = false) := by
                unfold Hid okT; rw [← HBK.out, HGU.out, HSG.out, RB.out.zero_iff.1 hm0]; rfl
              have hm0' : ¬ 0 < (m : Int) := by omega
              clear hm0
              go_wp2_with (refine store_bottom rfl _ _ rfl rfl b0 m q rfl rfl false k p i r M8 hp hr hq ?_; intro w9 M9 hg9 hs9)
              have A9 : NumAt w9 w.heap.size false 0 zP 0 zP := RowAt.grown A8 hg9 (by simp; omega)
              have hB9 : Below w.heap.size w w9 := hB8.grown hg9 (by have := hB8.size; omega) (by intro k hk; cases hk; omega)
              have hlt9 := M9.lt
              have hltA := A9.lt
              have hwb : w.heap.size < b0 := by omega
              clear A8 M8 hB8 hg9
              refine held_begin (fun w' => NumAt w' b0 false k p m q ∧ True) (by kernel_rfl) ?_
              have hS : NumAt w9.drew b0 false k p m q ∧ True := ⟨M9, trivial⟩
              refine held_valS 0 (some 52) rfl rfl (by kernel_rfl) (by kernel_rfl) (by kernel_rfl) noPanic_put rfl (.agg (numC false k p m q)) (fun _ h => run_row_num _ rfl b0 rfl false k p m q h.1 hp hq) hS ?_
              simp only [Act.put, List.setIfInBounds_toArray, List.set_cons_zero, List.set_cons_succ]
              refine held_valS 1 (some 53) rfl rfl (by kernel_rfl) (by kernel_rfl) (by kernel_rfl) noPanic_put rfl (.bool true) (fun _ _ => by go_simp) hS ?_
              simp only [Act.put, List.setIfInBounds_toArray, List.set_cons_zero, List.set_cons_succ]
              refine held_valS 2 (some 54) rfl rfl (by kernel_rfl) (by kernel_rfl) (by kernel_rfl) noPanic_put rfl (.bool true) (fun _ _ => by go_simp) hS ?_
              simp only [Act.put, List.setIfInBounds_toArray, List.set_cons_zero, List.set_cons_succ]
              refine held_valS 3 (some 55) rfl rfl (by kernel_rfl) (by kernel_rfl) (by kernel_rfl) noPanic_put rfl (.pointer (some ⟨b0, 206, none⟩)) (fun _ _ => by go_simp) hS ?_
              simp only [Act.put, List.setIfInBounds_toArray, List.set_cons_zero, List.set_cons_succ]
              refine held_valS 4 (some 56) rfl rfl (by kernel_rfl) (by kernel_rfl) (by kernel_rfl) noPanic_put rfl (.pointer (some ⟨b0, 206, none⟩)) (fun _ _ => by go_simp) hS ?_
              simp only [Act.put, List.setIfInBounds_toArray, List.set_cons_zero, List.set_cons_succ]
              refine held_valS 5 (some 57) rfl rfl (by kernel_rfl) (by kernel_rfl) (by kernel_rfl) noPanic_put rfl (.int .i64 m) (fun _ h => by have c := h.1.bused hp; go_simp) hS ?_
              simp only [Act.put, List.setIfInBounds_toArray, List.set_cons_zero, List.set_cons_succ]
              refine held_valS 6 (some 58) rfl rfl (by kernel_rfl) (by kernel_rfl) (by kernel_rfl) noPanic_put rfl (.bool false) (fun _ _ => by go_simp; omega) hS ?_
              simp only [Act.put, List.setIfInBounds_toArray, List.set_cons_zero, List.set_cons_succ]
              refine held_valS 7 (some 59) rfl rfl (by kernel_rfl) (by kernel_rfl) (by kernel_rfl) noPanic_put rfl (.bool false) (fun _ _ => by go_simp) hS ?_
              simp only [Act.put, List.setIfInBounds_toArray, List.set_cons_zero, List.set_cons_succ]
              refine held_valS 8 (some 60) rfl rfl (by kernel_rfl) (by kernel_rfl) (by kernel_rfl) noPanic_put rfl (.bool false) (fun _ _ => by go_simp) hS ?_
              simp only [Act.put, List.setIfInBounds_toArray, List.set_cons_zero, List.set_cons_succ]
              refine held_skip 9 (some 61) rfl rfl (by kernel_rfl) (by kernel_rfl) (by kernel_rfl) noPanic_put rfl hS ?_
              simp only [Act.put, List.setIfInBounds_toArray, List.set_cons_zero, List.set_cons_succ]
              refine held_skip 10 (some 62) rfl rfl (by kernel_rfl) (by kernel_rfl) (by kernel_rfl) noPanic_put rfl hS ?_
              simp only [Act.put, List.setIfInBounds_toArray, List.set_cons_zero, List.set_cons_succ]
              refine held_skip 11 (some 63) rfl rfl (by kernel_rfl) (by kernel_rfl) (by kernel_rfl) noPanic_put rfl hS ?_
              simp only [Act.put, List.setIfInBounds_toArray, List.set_cons_zero, List.set_cons_succ]
              refine held_valS 12 (some 64) rfl rfl (by kernel_rfl) (by kernel_rfl) (by kernel_rfl) noPanic_put rfl (.bool false) (fun _ _ => by go_simp) hS ?_
              simp only [Act.put, List.setIfInBounds_toArray, List.set_cons_zero, List.set_cons_succ]
              refine held_store_num 13 (by kernel_rfl) rfl rfl (.tmp 2) (.tmp 52) rfl rfl w.heap.size false k p m q rfl rfl false 0 zP 0 zP A9 zP_len zP_len hp hq ?_
              intro wf hNf hgf hsf
              refine ⟨⟨RowAt.grown hS.1 hgf (by simp; omega), trivial⟩, ?_⟩
              refine held_assign 14 (some 3) (by kernel_rfl) rfl rfl _ rfl rfl _ rfl ⟨RowAt.grown hS.1 hgf (by simp; omega), trivial⟩ ?_
              simp only [Act.put, List.setIfInBounds_toArray, List.set_cons_zero, List.set_cons_succ]
              refine wpAnyH_done (by kernel_rfl) ?_ _
              refine NoPanic.normal ?_
              go_wp2
              refine bodyPost_ret (v := .tuple #[.agg (numC false k p m q), .bool false]) (res_num_tmp Tryz.results121 _ _ w.heap.size _ _ _ _ _ _ rfl rfl hNf hp hq) rfl ⟨?_, ?_⟩
              · exact ⟨false, k, m, p, q, by rw [HN.out], hp, hq, fun h => by rw [HN.out] at h; cases h⟩
              · exact hB9.drew.grown hgf (by have := hB9.size; simp; omega) (by intro k hk; cases hk; omega)
            · have hm0' : 0 < (m : Int) := by omega
              have HU0 : Hid (dval (underN s.data.toList) ≠ 0) := fun e => hm0 (RB.out.zero_iff.2 e)
              go_wp2_with (refine store_bottom rfl _ _ rfl rfl b0 m q rfl rfl false k p i r M8 hp hr hq ?_; intro w9 M9 hg9 hs9)
              have A9 : NumAt w9 w.heap.size false 0 zP 0 zP := RowAt.grown A8 hg9 (by simp; omega)
              have hB9 : Below w.heap.size w w9 := hB8.grown hg9 (by have := hB8.size; omega) (by intro k hk; cases hk; omega)
              have hlt9 := M9.lt
              have hltA := A9.lt
              have hwb : w.heap.size < b0 := by omega
              clear A8 M8 hB8 hg9
              refine held_begin (fun w' => NumAt w' b0 false k p m q ∧ True) (by kernel_rfl) ?_
              have hS : NumAt w9.drew b0 false k p m q ∧ True := ⟨M9, trivial⟩
              refine held_valS 0 (some 52) rfl rfl (by kernel_rfl) (by kernel_rfl) (by kernel_rfl) noPanic_put rfl (.agg (numC false k p m q)) (fun _ h => run_row_num _ rfl b0 rfl false k p m q h.1 hp hq) hS ?_
              simp only [Act.put, List.setIfInBounds_toArray, List.set_cons_zero, List.set_cons_succ]
              refine held_valS 1 (some 53) rfl rfl (by kernel_rfl) (by kernel_rfl) (by kernel_rfl) noPanic_put rfl (.bool true) (fun _ _ => by go_simp) hS ?_
              simp only [Act.put, List.setIfInBounds_toArray, List.set_cons_zero, List.set_cons_succ]
              refine held_valS 2 (some 54) rfl rfl (by kernel_rfl) (by kernel_rfl) (by kernel_rfl) noPanic_put rfl (.bool true) (fun _ _ => by go_simp) hS ?_
              simp only [Act.put, List.setIfInBounds_toArray, List.set_cons_zero, List.set_cons_succ]
              refine held_valS 3 (some 55) rfl rfl (by kernel_rfl) (by kernel_rfl) (by kernel_rfl) noPanic_put rfl (.pointer (some ⟨b0, 206, none⟩)) (fun _ _ => by go_simp) hS ?_
              simp only [Act.put, List.setIfInBounds_toArray, List.set_cons_zero, List.set_cons_succ]
              refine held_valS 4 (some 56) rfl rfl (by kernel_rfl) (by kernel_rfl) (by kernel_rfl) noPanic_put rfl (.pointer (some ⟨b0, 206, none⟩)) (fun _ _ => by go_simp) hS ?_
              simp only [Act.put, List.setIfInBounds_toArray, List.set_cons_zero, List.set_cons_succ]
              refine held_valS 5 (some 57) rfl rfl (by kernel_rfl) (by kernel_rfl) (by kernel_rfl) noPanic_put rfl (.int .i64 m) (fun _ h => by have c := h.1.bused hp; go_simp) hS ?_
              simp only [Act.put, List.setIfInBounds_toArray, List.set_cons_zero, List.set_cons_succ]
              refine held_valS 6 (some 58) rfl rfl (by kernel_rfl) (by kernel_rfl) (by kernel_rfl) noPanic_put rfl (.bool true) (fun _ _ => by go_simp; omega) hS ?_
              simp only [Act.put, List.setIfInBounds_toArray, List.set_cons_zero, List.set_cons_succ]
              refine held_valS 7 (some 59) rfl rfl (by kernel_rfl) (by kernel_rfl) (by kernel_rfl) noPanic_put rfl (.bool true) (fun _ _ => by go_simp) hS ?_
              simp only [Act.put, List.setIfInBounds_toArray, List.set_cons_zero, List.set_cons_succ]
              refine held_valS 8 (some 60) rfl rfl (by kernel_rfl) (by kernel_rfl) (by kernel_rfl) noPanic_put rfl (.bool true) (fun _ _ => by go_simp) hS ?_
              simp only [Act.put, List.setIfInBounds_toArray, List.set_cons_zero, List.set_cons_succ]
              refine held_valS 9 (some 61) rfl rfl (by kernel_rfl) (by kernel_rfl) (by kernel_rfl) noPanic_put rfl (.agg (numC false k p m q)) (fun _ h => run_row_num _ rfl b0 rfl false k p m q h.1 hp hq) hS ?_
              simp only [Act.put, List.setIfInBounds_toArray, List.set_cons_zero, List.set_cons_succ]
              refine held_call 10 (some 62) (by kernel_rfl) rfl rfl rfl 122 #[.agg (numC false k p m q)] (by go_simp) _ (isWhole_any (n := 0) false _ hp RB.out) ?_
              rintro e w10 ⟨rfl, hW10⟩
              have hW10 : Below w9.heap.size w9 w10 := ⟨hW10.os, hW10.tape, hW10.output, hW10.size, hW10.block⟩
              have hs10 := hW10.size
              have A10 : NumAt w10 w.heap.size false 0 zP 0 zP := RowAt.below A9 hW10 hltA
              have hS : NumAt w10 b0 false k p m q ∧ True := ⟨RowAt.below M9 hW10 hlt9, trivial⟩
              have hB10 : Below w.heap.size w w10 := hB9.trans (hW10.mono hB9.size)
              refine ⟨_, rfl, hS, ?_⟩
              simp only [Act.put, List.setIfInBounds_toArray, List.set_cons_zero, List.set_cons_succ]
              obtain ⟨ow, how⟩ : ∃ ow, ow = decide (dval (underN s.data.toList) = 1) := ⟨_, rfl⟩
              rw [← how]
              have HOW := hide how
              clear how
              refine held_valS 11 (some 63) rfl rfl (by kernel_rfl) (by kernel_rfl) (by kernel_rfl) noPanic_put rfl (.bool (!ow)) (fun _ _ => by cases ow <;> go_simp) hS ?_
              simp only [Act.put, List.setIfInBounds_toArray, List.set_cons_zero, List.set_cons_succ]
              refine held_valS 12 (some 64) rfl rfl (by kernel_rfl) (by kernel_rfl) (by kernel_rfl) noPanic_put rfl (.bool (!ow)) (fun _ _ => by cases ow <;> go_simp) hS ?_
              simp only [Act.put, List.setIfInBounds_toArray, List.set_cons_zero, List.set_cons_succ]
              refine held_store_num 13 (by kernel_rfl) rfl rfl (.tmp 2) (.tmp 52) rfl rfl w.heap.size false k p m q rfl rfl false 0 zP 0 zP A10 zP_len zP_len hp hq ?_
              intro wf hNf hgf hsf
              refine ⟨⟨RowAt.grown hS.1 hgf (by simp; omega), trivial⟩, ?_⟩
              refine held_assign 14 (some 3) (by kernel_rfl) rfl rfl _ rfl rfl _ rfl ⟨RowAt.grown hS.1 hgf (by simp; omega), trivial⟩ ?_
              simp only [Act.put, List.setIfInBounds_toArray, List.set_cons_zero, List.set_cons_succ]
              refine wpAnyH_done (by kernel_rfl) ?_ _
              refine NoPanic.normal ?_
              go_wp2
              refine bodyPost_ret (v := .tuple #[.agg (numC false k p m q), .bool (!ow)]) (res_num_tmp Tryz.results121 _ _ w.heap.size _ _ _ _ _ _ rfl rfl hNf hp hq) rfl ⟨?_, ?_⟩
              · refine ⟨false, k, m, p, q, ?_, hp, hq, fun _ => ⟨HNG.out, RA.out, by unfold botN; rw [← HBK.out]; exact RB.out, hk, hm, hm0⟩⟩
                have : okT s.data.toList = !ow := by
                  unfold okT
                  rw [← HBK.out, HGU.out, HSG.out, decide_eq_true HU0.out, HOW.out]
                  by_cases h1 : dval (underN s.data.toList) = 1 <;> simp [h1]
                rw [this]
              · exact hB10.grown hgf (by have := hB10.size; omega) (by intro k hk; cases hk; omega)
      | true =>
        have hb1 : ((k : Int) == 0) = false := hbad'.resolve_left (by decide)
        clear hbad'
        go_wp2_with (refine store_nat rfl _ _ rfl rfl w3.heap.size k p rfl rfl 0 zP F zP_len hp ?_; intro w4 hN4 hg4 hs4; have c0 := hN4.c0)
        have hs4' : w4.heap.size = w3.heap.size + 1 := by rw [hs4]; simp
        have A4 : NumAt w4 w.heap.size false 0 zP 0 zP := (RowAt.old A3 (.cells (natC 0 zP) 83)).grown hg4 (by first | (simp; done) | (simp; omega))
        have hB4 : Below w.heap.size w w4 := (hB3.alloc (by omega) _).grown hg4 (by first | (simp; done) | (simp; omega)) (by intro k hk; cases hk; omega)
        clear A3 hB3 F hg4 hs4 c0
        refine region_make "l2_num.go:164" true k p hp w3.heap.size w.heap.size rfl rfl (by simp) hz2 hN4 A4 ?_
        intro b0 i r w7 hN7 N7 A7 hR hb0 hlt7 hW7
        have hr := hR.len
        have hB7 : Below w.heap.size w w7 := hB4.trans (hW7.mono hB4.size)
        have hb3 : w3.heap.size < b0 := by omega
        have hsB4 := hB4.size
        clear hN4 A4 hB4 hW7
        simp only [Act.put, List.setIfInBounds_toArray, List.set_cons_zero, List.set_cons_succ]
        have hi := (hR.fits.2 (one_lt' 600 (by decide)))
        have hi0 : i ≠ 0 := fun e => by have := hR.zero_iff.1 e; omega
        have HR1 := hide hR
        clear hR
        cases bk with
        | false =>
          have HN : Hid (okT s.data.toList = true) := by unfold Hid okT; rw [HSG.out, ← HBK.out]; rfl
          have HRD : Hid (ReadT s.data.toList (.returned (.tuple #[.agg (numC true k p i r), .bool true]))) := ⟨true, k, i, p, r, by rw [HN.out], hp, hr, fun _ => ⟨HNG.out, RA.out, by unfold botN; rw [← HBK.out]; exact HR1.out, hk, hi, hi0⟩⟩
          go_wp2_with (first | (refine load_num rfl _ rfl b0 rfl true k p i r hN7 hp hr ?_) | (refine store_num rfl _ _ rfl rfl w.heap.size true k p i r rfl rfl false 0 zP 0 zP A7 zP_len zP_len hp hr ?_; intro w8 hN8 hg8 hs8))
          refine bodyPost_ret (v := .tuple #[.agg (numC true k p i r), .bool true]) (res_num_tmp Tryz.results121 _ _ w.heap.size _ _ _ _ _ _ rfl rfl hN8 hp hr) rfl ⟨HRD.out, ?_⟩
          exact hB7.grown hg8 (by have := hB7.size; omega) (by intro k hk; cases hk; omega)
        | true =>
          go_wp2_with fail
          refine (readNat_any u _ hus).mono ?_
          rintro e w8 ⟨m, q, ob, rfl, hRb, hW8⟩
          have hq := hRb.len
          have hs8 := hW8.size
          have A8 : NumAt w8 w.heap.size false 0 zP 0 zP := A7.below hW8 (by omega)
          have M8 : NumAt w8 b0 true k p i r := hN7.below hW8 hlt7
          have hB8 : Below w.heap.size w w8 := hB7.trans (hW8.mono hB7.size)
          clear A7 N7 hN7 hB7 hW8
          have hokb : ob = goodB (underN s.data.toList) := by rw [← HO.out.2]; exact hRb.ok
          cases hob : ob with
          | false =>
            subst hob
            have HN : Hid (okT s.data.toList = false) := by unfold Hid okT; rw [← HBK.out, ← hokb, HSG.out]; rfl
            clear hokb hRb
            go_wp2_with (refine store_bottom rfl _ _ rfl rfl b0 m q rfl rfl true k p i r M8 hp hr hq ?_; intro w9 M9 hg9 hs9)
            have A9 : NumAt w9 w.heap.size false 0 zP 0 zP := RowAt.grown A8 hg9 (by simp; omega)
            have hB9 : Below w.heap.size w w9 := hB8.grown hg9 (by have := hB8.size; omega) (by intro k hk; cases hk; omega)
            have hlt9 := M9.lt
            have hltA := A9.lt
            have hwb : w.heap.size < b0 := by omega
            clear A8 M8 hB8 hg9
            refine held_begin (fun w' => NumAt w' b0 true k p m q ∧ True) (by kernel_rfl) ?_
            have hS : NumAt w9.drew b0 true k p m q ∧ True := ⟨M9, trivial⟩
            refine held_valS 0 (some 52) rfl rfl (by kernel_rfl) (by kernel_rfl) (by kernel_rfl) noPanic_put rfl (.agg (numC true k p m q)) (fun _ h => run_row_num _ rfl b0 rfl true k p m q h.1 hp hq) hS ?_
            simp only [Act.put, List.setIfInBounds_toArray, List.set_cons_zero, List.set_cons_succ]
            refine held_valS 1 (some 53) rfl rfl (by kernel_rfl) (by kernel_rfl) (by kernel_rfl) noPanic_put rfl (.bool false) (fun _ _ => by go_simp) hS ?_
            simp only [Act.put, List.setIfInBounds_toArray, List.set_cons_zero, List.set_cons_succ]
            refine held_valS 2 (some 54) rfl rfl (by kernel_rfl) (by kernel_rfl) (by kernel_rfl) noPanic_put rfl (.bool false) (fun _ _ => by go_simp) hS ?_
            simp only [Act.put, List.setIfInBounds_toArray, List.set_cons_zero, List.set_cons_succ]
            refine held_skip 3 (some 55) rfl rfl (by kernel_rfl) (by kernel_rfl) (by kernel_rfl) noPanic_put rfl hS ?_
            simp only [Act.put, List.setIfInBounds_toArray, List.set_cons_zero, List.set_cons_succ]
            refine held_skip 4 (some 56) rfl rfl (by kernel_rfl) (by kernel_rfl) (by kernel_rfl) noPanic_put rfl hS ?_
            simp only [Act.put, List.setIfInBounds_toArray, List.set_cons_zero, List.set_cons_succ]
            refine held_skip 5 (some 57) rfl rfl (by kernel_rfl) (by kernel_rfl) (by kernel_rfl) noPanic_put rfl hS ?_
            simp only [Act.put, List.setIfInBounds_toArray, List.set_cons_zero, List.set_cons_succ]
            refine held_skip 6 (some 58) rfl rfl (by kernel_rfl) (by kernel_rfl) (by kernel_rfl) noPanic_put rfl hS ?_
            simp only [Act.put, List.setIfInBounds_toArray, List.set_cons_zero, List.set_cons_succ]
            refine held_valS 7 (some 59) rfl rfl (by kernel_rfl) (by kernel_rfl) (by kernel_rfl) noPanic_put rfl (.bool false) (fun _ _ => by go_simp) hS ?_
            simp only [Act.put, List.setIfInBounds_toArray, List.set_cons_zero, List.set_cons_succ]
            refine held_valS 8 (some 60) rfl rfl (by kernel_rfl) (by kernel_rfl) (by kernel_rfl) noPanic_put rfl (.bool false) (fun _ _ => by go_simp) hS ?_
            simp only [Act.put, List.setIfInBounds_toArray, List.set_cons_zero, List.set_cons_succ]
            refine held_skip 9 (some 61) rfl rfl (by kernel_rfl) (by kernel_rfl) (by kernel_rfl) noPanic_put rfl hS ?_
            simp only [Act.put, List.setIfInBounds_toArray, List.set_cons_zero, List.set_cons_succ]
            refine held_skip 10 (some 62) rfl rfl (by kernel_rfl) (by kernel_rfl) (by kernel_rfl) noPanic_put rfl hS ?_
            simp only [Act.put, List.setIfInBounds_toArray, List.set_cons_zero, List.set_cons_succ]
            refine held_skip 11 (some 63) rfl rfl (by kernel_rfl) (by kernel_rfl) (by kernel_rfl) noPanic_put rfl hS ?_
            simp only [Act.put, List.setIfInBounds_toArray, List.set_cons_zero, List.set_cons_succ]
            refine held_valS 12 (some 64) rfl rfl (by kernel_rfl) (by kernel_rfl) (by kernel_rfl) noPanic_put rfl (.bool false) (fun _ _ => by go_simp) hS ?_
            simp only [Act.put, List.setIfInBounds_toArray, List.set_cons_zero, List.set_cons_succ]
            refine held_store_num 13 (by kernel_rfl) rfl rfl (.tmp 2) (.tmp 52) rfl rfl w.heap.size true k p m q rfl rfl false 0 zP 0 zP A9 zP_len zP_len hp hq ?_
            intro wf hNf hgf hsf
            refine ⟨⟨RowAt.grown hS.1 hgf (by simp; omega), trivial⟩, ?_⟩
            refine held_assign 14 (some 3) (by kernel_rfl) rfl rfl _ rfl rfl _ rfl ⟨RowAt.grown hS.1 hgf (by simp; omega), trivial⟩ ?_
            simp only [Act.put, List.setIfInBounds_toArray, List.set_cons_zero, List.set_cons_succ]
            refine wpAnyH_done (by kernel_rfl) ?_ _
            refine NoPanic.normal ?_
            go_wp2
            refine bodyPost_ret (v := .tuple #[.agg (numC true k p m q), .bool false]) (res_num_tmp Tryz.results121 _ _ w.heap.size _ _ _ _ _ _ rfl rfl hNf hp hq) rfl ⟨?_, ?_⟩
            · exact ⟨true, k, m, p, q, by rw [HN.out], hp, hq, fun h => by rw [HN.out] at h; cases h⟩
            · exact hB9.drew.grown hgf (by have := hB9.size; simp; omega) (by intro k hk; cases hk; omega)
          | true =>
            subst hob
            have hgu : goodB u.data.toList = true := by rw [HO.out.2]; exact hokb.symm
            have rb : Rep (dval (underN s.data.toList)) m q := by rw [← HO.out.2]; exact hRb.rep hgu
            have hm : m ≤ 100 := by
              have h1 : dval (underN s.data.toList) < 10 ^ 600 := by rw [← HO.out.2]; exact good_lt' hgu
              exact rb.fits.2 h1
            have RB := hide rb
            have HGU : Hid (goodB (underN s.data.toList) = true) := hokb.symm
            clear hokb hRb hgu rb
            by_cases hm0 : m = 0
            · have HN : Hid (okT s.data.toList = false) := by
                unfold Hid okT; rw [← HBK.out, HGU.out, HSG.out, RB.out.zero_iff.1 hm0]; rfl
              have hm0' : ¬ 0 < (m : Int) := by omega
              clear hm0
              go_wp2_with (refine store_bottom rfl _ _ rfl rfl b0 m q rfl rfl true k p i r M8 hp hr hq ?_; intro w9 M9 hg9 hs9)
              have A9 : NumAt w9 w.heap.size false 0 zP 0 zP := RowAt.grown A8 hg9 (by simp; omega)
              have hB9 : Below w.heap.size w w9 := hB8.grown hg9 (by have := hB8.size; omega) (by intro k hk; cases hk; omega)
              have hlt9 := M9.lt
              have hltA := A9.lt
              have hwb : w.heap.size < b0 := by omega
              clear A8 M8 hB8 hg9
              refine held_begin (fun w' => NumAt w' b0 true k p m q ∧ True) (by kernel_rfl) ?_
              have hS : NumAt w9.drew b0 true k p m q ∧ True := ⟨M9, trivial⟩
              refine held_valS 0 (some 52) rfl rfl (by kernel_rfl) (by kernel_rfl) (by kernel_rfl) noPanic_put rfl (.agg (numC true k p m q)) (fun _ h => run_row_num _ rfl b0 rfl true k p m q h.1 hp hq) hS ?_
              simp only [Act.put, List.setIfInBounds_toArray, List.set_cons_zero, List.set_cons_succ]
              refine held_valS 1 (some 53) rfl rfl (by kernel_rfl) (by kernel_rfl) (by kernel_rfl) noPanic_put rfl (.bool true) (fun _ _ => by go_simp) hS ?_
              simp only [Act.put, List.setIfInBounds_toArray, List.set_cons_zero, List.set_cons_succ]
              refine held_valS 2 (some 54) rfl rfl (by kernel_rfl) (by kernel_rfl) (by kernel_rfl) noPanic_put rfl (.bool true) (fun _ _ => by go_simp) hS ?_
              simp only [Act.put, List.setIfInBounds_toArray, List.set_cons_zero, List.set_cons_succ]
              refine held_valS 3 (some 55) rfl rfl (by kernel_rfl) (by kernel_rfl) (by kernel_rfl) noPanic_put rfl (.pointer (some ⟨b0, 206, none⟩)) (fun _ _ => by go_simp) hS ?_
              simp only [Act.put, List.setIfInBounds_toArray, List.set_cons_zero, List.set_cons_succ]
              refine held_valS 4 (some 56) rfl rfl (by kernel_rfl) (by kernel_rfl) (by kernel_rfl) noPanic_put rfl (.pointer (some ⟨b0, 206, none⟩)) (fun _ _ => by go_simp) hS ?_
              simp only [Act.put, List.setIfInBounds_toArray, List.set_cons_zero, List.set_cons_succ]
              refine held_valS 5 (some 57) rfl rfl (by kernel_rfl) (by kernel_rfl) (by kernel_rfl) noPanic_put rfl (.int .i64 m) (fun _ h => by have c := h.1.bused hp; go_simp) hS ?_
              simp only [Act.put, List.setIfInBounds_toArray, List.set_cons_zero, List.set_cons_succ]
              refine held_valS 6 (some 58) rfl rfl (by kernel_rfl) (by kernel_rfl) (by kernel_rfl) noPanic_put rfl (.bool false) (fun _ _ => by go_simp; omega) hS ?_
              simp only [Act.put, List.setIfInBounds_toArray, List.set_cons_zero, List.set_cons_succ]
              refine held_valS 7 (some 59) rfl rfl (by kernel_rfl) (by kernel_rfl) (by kernel_rfl) noPanic_put rfl (.bool false) (fun _ _ => by go_simp) hS ?_
              simp only [Act.put, List.setIfInBounds_toArray, List.set_cons_zero, List.set_cons_succ]
              refine held_valS 8 (some 60) rfl rfl (by kernel_rfl) (by kernel_rfl) (by kernel_rfl) noPanic_put rfl (.bool false) (fun _ _ => by go_simp) hS ?_
              simp only [Act.put, List.setIfInBounds_toArray, List.set_cons_zero, List.set_cons_succ]
              refine held_skip 9 (some 61) rfl rfl (by kernel_rfl) (by kernel_rfl) (by kernel_rfl) noPanic_put rfl hS ?_
              simp only [Act.put, List.setIfInBounds_toArray, List.set_cons_zero, List.set_cons_succ]
              refine held_skip 10 (some 62) rfl rfl (by kernel_rfl) (by kernel_rfl) (by kernel_rfl) noPanic_put rfl hS ?_
              simp only [Act.put, List.setIfInBounds_toArray, List.set_cons_zero, List.set_cons_succ]
              refine held_skip 11 (some 63) rfl rfl (by kernel_rfl) (by kernel_rfl) (by kernel_rfl) noPanic_put rfl hS ?_
              simp only [Act.put, List.setIfInBounds_toArray, List.set_cons_zero, List.set_cons_succ]
              refine held_valS 12 (some 64) rfl rfl (by kernel_rfl) (by kernel_rfl) (by kernel_rfl) noPanic_put rfl (.bool false) (fun _ _ => by go_simp) hS ?_
              simp only [Act.put, List.setIfInBounds_toArray, List.set_cons_zero, List.set_cons_succ]
              refine held_store_num 13 (by kernel_rfl) rfl rfl (.tmp 2) (.tmp 52) rfl rfl w.heap.size true k p m q rfl rfl false 0 zP 0 zP A9 zP_len zP_len hp hq ?_
              intro wf hNf hgf hsf
              refine ⟨⟨RowAt.grown hS.1 hgf (by simp; omega), trivial⟩, ?_⟩
              refine held_assign 14 (some 3) (by kernel_rfl) rfl rfl _ rfl rfl _ rfl ⟨RowAt.grown hS.1 hgf (by simp; omega), trivial⟩ ?_
              simp only [Act.put, List.setIfInBounds_toArray, List.set_cons_zero, List.set_cons_succ]
              refine wpAnyH_done (by kernel_rfl) ?_ _
              refine NoPanic.normal ?_
              go_wp2
              refine bodyPost_ret (v := .tuple #[.agg (numC true k p m q), .bool false]) (res_num_tmp Tryz.results121 _ _ w.heap.size _ _ _ _ _ _ rfl rfl hNf hp hq) rfl ⟨?_, ?_⟩
              · exact ⟨true, k, m, p, q, by rw [HN.out], hp, hq, fun h => by rw [HN.out] at h; cases h⟩
              · exact hB9.drew.grown hgf (by have := hB9.size; simp; omega) (by intro k hk; cases hk; omega)
            · have hm0' : 0 < (m : Int) := by omega
              have HU0 : Hid (dval (underN s.data.toList) ≠ 0) := fun e => hm0 (RB.out.zero_iff.2 e)
              go_wp2_with (refine store_bottom rfl _ _ rfl rfl b0 m q rfl rfl true k p i r M8 hp hr hq ?_; intro w9 M9 hg9 hs9)
              have A9 : NumAt w9 w.heap.size false 0 zP 0 zP := RowAt.grown A8 hg9 (by simp; omega)
              have hB9 : Below w.heap.size w w9 := hB8.grown hg9 (by have := hB8.size; omega) (by intro k hk; cases hk; omega)
              have hlt9 := M9.lt
              have hltA := A9.lt
              have hwb : w.heap.size < b0 := by omega
              clear A8 M8 hB8 hg9
              refine held_begin (fun w' => NumAt w' b0 true k p m q ∧ True) (by kernel_rfl) ?_
              have hS : NumAt w9.drew b0 true k p m q ∧ True := ⟨M9, trivial⟩
              refine held_valS 0 (some 52) rfl rfl (by kernel_rfl) (by kernel_rfl) (by kernel_rfl) noPanic_put rfl (.agg (numC true k p m q)) (fun _ h => run_row_num _ rfl b0 rfl true k p m q h.1 hp hq) hS ?_
              simp only [Act.put, List.setIfInBounds_toArray, List.set_cons_zero, List.set_cons_succ]
              refine held_valS 1 (some 53) rfl rfl (by kernel_rfl) (by kernel_rfl) (by kernel_rfl) noPanic_put rfl (.bool true) (fun _ _ => by go_simp) hS ?_
              simp only [Act.put, List.setIfInBounds_toArray, List.set_cons_zero, List.set_cons_succ]
              refine held_valS 2 (some 54) rfl rfl (by kernel_rfl) (by kernel_rfl) (by kernel_rfl) noPanic_put rfl (.bool true) (fun _ _ => by go_simp) hS ?_
              simp only [Act.put, List.setIfInBounds_toArray, List.set_cons_zero, List.set_cons_succ]
              refine held_valS 3 (some 55) rfl rfl (by kernel_rfl) (by kernel_rfl) (by kernel_rfl) noPanic_put rfl (.pointer (some ⟨b0, 206, none⟩)) (fun _ _ => by go_simp) hS ?_
              simp only [Act.put, List.setIfInBounds_toArray, List.set_cons_zero, List.set_cons_succ]
              refine held_valS 4 (some 56) rfl rfl (by kernel_rfl) (by kernel_rfl) (by kernel_rfl) noPanic_put rfl (.pointer (some ⟨b0, 206, none⟩)) (fun _ _ => by go_simp) hS ?_
              simp only [Act.put, List.setIfInBounds_toArray, List.set_cons_zero, List.set_cons_succ]
              refine held_valS 5 (some 57) rfl rfl (by kernel_rfl) (by kernel_rfl) (by kernel_rfl) noPanic_put rfl (.int .i64 m) (fun _ h => by have c := h.1.bused hp; go_simp) hS ?_
              simp only [Act.put, List.setIfInBounds_toArray, List.set_cons_zero, List.set_cons_succ]
              refine held_valS 6 (some 58) rfl rfl (by kernel_rfl) (by kernel_rfl) (by kernel_rfl) noPanic_put rfl (.bool true) (fun _ _ => by go_simp; omega) hS ?_
              simp only [Act.put, List.setIfInBounds_toArray, List.set_cons_zero, List.set_cons_succ]
              refine held_valS 7 (some 59) rfl rfl (by kernel_rfl) (by kernel_rfl) (by kernel_rfl) noPanic_put rfl (.bool true) (fun _ _ => by go_simp) hS ?_
              simp only [Act.put, List.setIfInBounds_toArray, List.set_cons_zero, List.set_cons_succ]
              refine held_valS 8 (some 60) rfl rfl (by kernel_rfl) (by kernel_rfl) (by kernel_rfl) noPanic_put rfl (.bool true) (fun _ _ => by go_simp) hS ?_
              simp only [Act.put, List.setIfInBounds_toArray, List.set_cons_zero, List.set_cons_succ]
              refine held_valS 9 (some 61) rfl rfl (by kernel_rfl) (by kernel_rfl) (by kernel_rfl) noPanic_put rfl (.agg (numC true k p m q)) (fun _ h => run_row_num _ rfl b0 rfl true k p m q h.1 hp hq) hS ?_
              simp only [Act.put, List.setIfInBounds_toArray, List.set_cons_zero, List.set_cons_succ]
              refine held_call 10 (some 62) (by kernel_rfl) rfl rfl rfl 122 #[.agg (numC true k p m q)] (by go_simp) _ (isWhole_any (n := 0) true _ hp RB.out) ?_
              rintro e w10 ⟨rfl, hW10⟩
              have hW10 : Below w9.heap.size w9 w10 := ⟨hW10.os, hW10.tape, hW10.output, hW10.size, hW10.block⟩
              have hs10 := hW10.size
              have A10 : NumAt w10 w.heap.size false 0 zP 0 zP := RowAt.below A9 hW10 hltA
              have hS : NumAt w10 b0 true k p m q ∧ True := ⟨RowAt.below M9 hW10 hlt9, trivial⟩
              have hB10 : Below w.heap.size w w10 := hB9.trans (hW10.mono hB9.size)
              refine ⟨_, rfl, hS, ?_⟩
              simp only [Act.put, List.setIfInBounds_toArray, List.set_cons_zero, List.set_cons_succ]
              obtain ⟨ow, how⟩ : ∃ ow, ow = decide (dval (underN s.data.toList) = 1) := ⟨_, rfl⟩
              rw [← how]
              have HOW := hide how
              clear how
              refine held_valS 11 (some 63) rfl rfl (by kernel_rfl) (by kernel_rfl) (by kernel_rfl) noPanic_put rfl (.bool (!ow)) (fun _ _ => by cases ow <;> go_simp) hS ?_
              simp only [Act.put, List.setIfInBounds_toArray, List.set_cons_zero, List.set_cons_succ]
              refine held_valS 12 (some 64) rfl rfl (by kernel_rfl) (by kernel_rfl) (by kernel_rfl) noPanic_put rfl (.bool (!ow)) (fun _ _ => by cases ow <;> go_simp) hS ?_
              simp only [Act.put, List.setIfInBounds_toArray, List.set_cons_zero, List.set_cons_succ]
              refine held_store_num 13 (by kernel_rfl) rfl rfl (.tmp 2) (.tmp 52) rfl rfl w.heap.size true k p m q rfl rfl false 0 zP 0 zP A10 zP_len zP_len hp hq ?_
              intro wf hNf hgf hsf
              refine ⟨⟨RowAt.grown hS.1 hgf (by simp; omega), trivial⟩, ?_⟩
              refine held_assign 14 (some 3) (by kernel_rfl) rfl rfl _ rfl rfl _ rfl ⟨RowAt.grown hS.1 hgf (by simp; omega), trivial⟩ ?_
              simp only [Act.put, List.setIfInBounds_toArray, List.set_cons_zero, List.set_cons_succ]
              refine wpAnyH_done (by kernel_rfl) ?_ _
              refine NoPanic.normal ?_
              go_wp2
              refine bodyPost_ret (v := .tuple #[.agg (numC true k p m q), .bool (!ow)]) (res_num_tmp Tryz.results121 _ _ w.heap.size _ _ _ _ _ _ rfl rfl hNf hp hq) rfl ⟨?_, ?_⟩
              · refine ⟨true, k, m, p, q, ?_, hp, hq, fun _ => ⟨HNG.out, RA.out, by unfold botN; rw [← HBK.out]; exact RB.out, hk, hm, hm0⟩⟩
                have : okT s.data.toList = !ow := by
                  unfold okT
                  rw [← HBK.out, HGU.out, HSG.out, decide_eq_true HU0.out, HOW.out]
                  by_cases h1 : dval (underN s.data.toList) = 1 <;> simp [h1]
                rw [this]
              · exact hB10.grown hgf (by have := hB10.size; omega) (by intro k hk; cases hk; omega)
end Go.Proofs.YtjgpjafndaikcaaGreatDoor

/-
  What readNum of impl answers.
-/
namespace Go.Proofs.YtjgpjafndaikcaaGreatDoor
open Go.RowKit
set_option linter.unusedVariables false

/-- The goal is a list's walk, and nothing else. -/
theorem wpList_id {ops : Array Oper} {rest : List Oper} {o : Oper} {a : Act} {w : World} {Q : Exit → Act → World → Prop} (h : wpList Tryz.prog ops Q (o :: rest) a w) : wpList Tryz.prog ops Q (o :: rest) a w := h

set_option maxHeartbeats 6000000 in
set_option maxRecDepth 100000 in
theorem readNum_any (s : ByteArray) (w : World) (hs : s.size ≤ maxLen) :
    Calls Tryz.prog 82 #[.string s] w fun e w' => ReadN s.data.toList e ∧ Below w.heap.size w w' := by
  have hz := zero_nat.1
  have hz1 := zero_whole.1
  have hz2 := zero_num.1
  have A := NumAt.new w false 0 zP 0 zP
  have hB : Below w.heap.size w (w.alloc (.cells (numC false 0 zP 0 zP) 87)) := (Below.refl _ _).alloc (Nat.le_refl _) _
  have HE := hide (okN_eq s.data.toList)
  go_enter Tryz.func82, Tryz.ntmps82
  go_wp2_with fail
  refine (readTerms_any s _ hs).mono ?_
  rintro e w1 ⟨⟨g, k, j, p, q, rfl, hp, hq, hok⟩, hW1⟩
  have A1 : NumAt w1 w.heap.size false 0 zP 0 zP := RowAt.below A hW1 (by simp)
  have hB1 : Below w.heap.size w w1 := hB.trans (hW1.mono (by simp))
  have hs1 := hW1.size
  simp only [World.size_alloc] at hs1
  have F := NumAt.new w1 false 0 zP 0 zP
  have HOK := hide hok
  clear A hB hW1 hok
  have NO : Hid (okN s.data.toList = false → ReadN s.data.toList (.returned (.tuple #[.agg (numC false 0 zP 0 zP), .bool false]))) := fun h => ⟨false, 0, 0, zP, zP, by rw [h]; rfl, zP_len, zP_len, fun h' => by rw [h] at h'; cases h'⟩
  cases ht : okT s.data.toList with
  | false =>
    have HN : Hid (okN s.data.toList = false) := by unfold Hid; rw [HE.out, ht]; rfl
    clear ht
    go_wp2_with (refine store_num rfl (.tmp 4) (.tmp 9) rfl rfl w1.heap.size g k p j q rfl rfl false 0 zP 0 zP F zP_len zP_len hp hq ?_; intro w2 hN2 hg2 hs2; refine Hid.out ?_)
    have A2 : NumAt w2 w.heap.size false 0 zP 0 zP := (RowAt.old A1 (.cells (numC false 0 zP 0 zP) 87)).grown hg2 (by simp; omega)
    unfold Hid
    go_wp2_with (with_reducible refine wpList_id ?_; first | (refine build_num0 rfl rfl _ rfl ?_) | (refine store_num rfl (.tmp 2) (.tmp 28) rfl rfl w.heap.size false 0 zP 0 zP rfl rfl false 0 zP 0 zP A2 zP_len zP_len zP_len zP_len ?_; intro wf hNf hgf hsf))
    refine bodyPost_ret (v := .tuple #[.agg (numC false 0 zP 0 zP), .bool false]) (res_num_tmp Tryz.results82 _ _ w.heap.size _ _ _ _ _ _ rfl rfl hNf zP_len zP_len) rfl ⟨NO.out HN.out, ?_⟩
    exact ((hB1.alloc (by omega) _).grown hg2 (by simp; omega) (by intro k hk; cases hk; omega)).grown hgf (by rw [hs2]; simp; omega) (by intro k hk; cases hk; omega)
  | true =>
    obtain ⟨hg, ra, rb, hk, hj, hj0⟩ := HOK.out ht
    have HT := hide ht
    have RA := hide (And.intro ra rb)
    have HG := hide hg
    clear ra rb ht HOK hg
    go_wp2_with (refine store_num rfl (.tmp 4) (.tmp 9) rfl rfl w1.heap.size g k p j q rfl rfl false 0 zP 0 zP F zP_len zP_len hp hq ?_; intro w2 hN2 hg2 hs2; refine Hid.out ?_)
    unfold Hid
    go_wp2_with (with_reducible refine wpList_id ?_; first | (refine load_num_w rfl _ rfl w1.heap.size rfl g k p j q hN2 hp hq ?_))
    have A2 : NumAt w2 w.heap.size false 0 zP 0 zP := (RowAt.old A1 (.cells (numC false 0 zP 0 zP) 87)).grown hg2 (by simp; omega)
    have hB2 : Below w.heap.size w w2 := (hB1.alloc (by omega) _).grown hg2 (by simp; omega) (by intro k hk; cases hk; omega)
    have hs2' : w2.heap.size = w1.heap.size + 1 := by rw [hs2]; simp
    clear A1 hB1 F hg2 hs2
    refine (isWhole_any (n := 0) g _ hp RA.out.2).mono ?_
    rintro e w3 ⟨rfl, hW3⟩
    have hs3 := hW3.size
    have A3 : NumAt w3 w.heap.size false 0 zP 0 zP := RowAt.below A2 hW3 (by omega)
    have M3 : NumAt w3 w1.heap.size g k p j q := RowAt.below hN2 hW3 (by omega)
    have hB3 : Below w.heap.size w w3 := hB2.trans (hW3.mono (by omega))
    clear A2 hN2 hB2 hW3
    by_cases hu1 : botN s.data.toList = 1
    · have HN : Hid (okN s.data.toList = true) := by unfold Hid; rw [HE.out, HT.out, decide_eq_true hu1]; rfl
      have HRD : Hid (ReadN s.data.toList (.returned (.tuple #[.agg (numC g k p j q), .bool true]))) := ⟨g, k, j, p, q, by rw [HN.out], hp, hq, fun _ => ⟨HG.out, RA.out.1, RA.out.2, hk, hj, hj0⟩⟩
      rw [decide_eq_true hu1]
      clear hu1
      go_wp2_with (with_reducible refine wpList_id ?_; first | (refine load_num rfl _ rfl w1.heap.size rfl g k p j q M3 hp hq ?_) | (refine store_num rfl _ _ rfl rfl w.heap.size g k p j q rfl rfl false 0 zP 0 zP A3 zP_len zP_len hp hq ?_; intro wf hNf hgf hsf))
      refine bodyPost_ret (v := .tuple #[.agg (numC g k p j q), .bool true]) (res_num_tmp Tryz.results82 _ _ w.heap.size _ _ _ _ _ _ rfl rfl hNf hp hq) rfl ⟨HRD.out, ?_⟩
      exact hB3.grown hgf (by have := hB3.size; omega) (by intro k hk; cases hk; omega)
    · rw [decide_eq_false hu1]
      have HU1 := hide hu1
      clear hu1
      go_wp2_with (with_reducible refine wpList_id ?_; first | (refine load_mid_w rfl _ rfl w1.heap.size 1 rfl k p M3.size hp ?_) | (refine load_mid_w rfl _ rfl w1.heap.size 206 rfl j q (M3.bottom hp) hq ?_))
      refine (gcd_any _ RA.out.1 RA.out.2 (by omega) (by omega)).mono ?_
      rintro e w4 ⟨c, cc, rfl, hRc, hW4⟩
      have hs4 := hW4.size
      have A4 : NumAt w4 w.heap.size false 0 zP 0 zP := RowAt.below A3 hW4 (by omega)
      have M4 : NumAt w4 w1.heap.size g k p j q := RowAt.below M3 hW4 (by omega)
      have hB4 : Below w.heap.size w w4 := hB3.trans (hW4.mono (by omega))
      have HRc := hide hRc
      clear A3 M3 hB3 hW4 hRc
      go_wp2_with fail
      refine (isOne_any _ HRc.out).mono ?_
      rintro e w5 ⟨rfl, hW5⟩
      have A5 : NumAt w5 w.heap.size false 0 zP 0 zP := RowAt.below A4 hW5 (by omega)
      have M5 : NumAt w5 w1.heap.size g k p j q := RowAt.below M4 hW5 (by omega)
      have hB5 : Below w.heap.size w w5 := hB4.trans (hW5.mono (by omega))
      clear A4 M4 hB4 hW5
      by_cases hg1 : Nat.gcd (topN s.data.toList) (botN s.data.toList) = 1
      · rw [decide_eq_true hg1]
        have HN : Hid (okN s.data.toList = true) := by unfold Hid; rw [HE.out, HT.out, decide_eq_true hg1]; simp
        have HRD : Hid (ReadN s.data.toList (.returned (.tuple #[.agg (numC g k p j q), .bool true]))) := ⟨g, k, j, p, q, by rw [HN.out], hp, hq, fun _ => ⟨HG.out, RA.out.1, RA.out.2, hk, hj, hj0⟩⟩
        clear hg1
        go_wp2_with (with_reducible refine wpList_id ?_; first | (refine load_num rfl _ rfl w1.heap.size rfl g k p j q M5 hp hq ?_) | (refine store_num rfl _ _ rfl rfl w.heap.size g k p j q rfl rfl false 0 zP 0 zP A5 zP_len zP_len hp hq ?_; intro wf hNf hgf hsf))
        refine bodyPost_ret (v := .tuple #[.agg (numC g k p j q), .bool true]) (res_num_tmp Tryz.results82 _ _ w.heap.size _ _ _ _ _ _ rfl rfl hNf hp hq) rfl ⟨HRD.out, ?_⟩
        exact hB5.grown hgf (by have := hB5.size; omega) (by intro k hk; cases hk; omega)
      · rw [decide_eq_false hg1]
        have HN : Hid (okN s.data.toList = false) := by unfold Hid; rw [HE.out, HT.out, decide_eq_false hg1, decide_eq_false HU1.out]; rfl
        clear hg1
        go_wp2_with (with_reducible refine wpList_id ?_; first | (refine build_num0 rfl rfl _ rfl ?_) | (refine store_num rfl (.tmp 2) (.tmp 28) rfl rfl w.heap.size false 0 zP 0 zP rfl rfl false 0 zP 0 zP A5 zP_len zP_len zP_len zP_len ?_; intro wf hNf hgf hsf))
        refine bodyPost_ret (v := .tuple #[.agg (numC false 0 zP 0 zP), .bool false]) (res_num_tmp Tryz.results82 _ _ w.heap.size _ _ _ _ _ _ rfl rfl hNf zP_len zP_len) rfl ⟨NO.out HN.out, ?_⟩
        exact hB5.grown hgf (by have := hB5.size; omega) (by intro k hk; cases hk; omega)
end Go.Proofs.YtjgpjafndaikcaaGreatDoor

/-
  What spec.GoodNum and impl.GoodNum answer.
-/
namespace Go.Proofs.YtjgpjafndaikcaaGreatDoor
open Go.RowKit
set_option linter.unusedVariables false

set_option maxHeartbeats 400000 in
theorem specGoodNum_any (s : ByteArray) (w : World) (hs : s.size ≤ maxLen) :
    Calls Tryz.prog 22 #[.string s] w fun e w' => e = .returned (.bool (okN s.data.toList)) ∧ Below w.heap.size w w' := by
  go_enter Tryz.func22, Tryz.ntmps22
  go_wp2_with fail
  refine (l2Parts_any s _ hs).mono ?_
  rintro e w1 ⟨⟨g, t, u, rfl, _⟩, hW⟩
  obtain ⟨b, hb⟩ : ∃ b, b = okN s.data.toList := ⟨_, rfl⟩
  rw [← hb]
  have HB := hideT' hb
  clear hb
  go_wp2
  go_ret
  exact ⟨by rw [← HB.out]; rfl, hW⟩

set_option maxHeartbeats 400000 in
theorem implGoodNum_any (s : ByteArray) (w : World) (hs : s.size ≤ maxLen) :
    Calls Tryz.prog 40 #[.string s] w fun e w' => e = .returned (.bool (okN s.data.toList)) ∧ Below w.heap.size w w' := by
  have hz2 := zero_num.1
  go_enter Tryz.func40, Tryz.ntmps40
  go_wp2_with fail
  refine (readNum_any s _ hs).mono ?_
  rintro e w1 ⟨⟨g, k, j, p, q, rfl, hp, hq, _⟩, hW⟩
  obtain ⟨b, hb⟩ : ∃ b, b = okN s.data.toList := ⟨_, rfl⟩
  rw [← hb]
  have HB := hideT' hb
  clear hb
  have F := NumAt.new w1 false 0 zP 0 zP
  go_wp2_with (refine store_num rfl _ _ rfl rfl w1.heap.size g k p j q rfl rfl false 0 zP 0 zP F zP_len zP_len hp hq ?_; intro w2 hN2 hg2 hs2)
  go_ret
  refine ⟨by rw [← HB.out]; rfl, (hW.alloc hW.size _).grown hg2 (by have := hW.size; simp; omega) (by intro k hk; cases hk; exact hW.size)⟩
end Go.Proofs.YtjgpjafndaikcaaGreatDoor

/-
  Data as a list of nodes: what good data are. Plain facts.
-/
namespace Go.Proofs.YtjgpjafndaikcaaGreatDoor
set_option linter.unusedVariables false

/-- A node: its kind, its text, the list that it is in. -/
structure Dm where
  k : Int
  t : ByteArray
  u : Int
instance : Inhabited Dm := ⟨⟨0, ⟨#[]⟩, 0⟩⟩
def dk (l : List Dm) (i : Nat) : Int := (l.getD i default).k
def dt (l : List Dm) (i : Nat) : ByteArray := (l.getD i default).t
def du (l : List Dm) (i : Nat) : Int := (l.getD i default).u

def isL (k : Int) : Bool := decide (k = 5) || decide (k = 6)
/-- Bytes of a string. -/
def strC (c : UInt8) : Bool := (decide (32 ≤ c.toNat) && decide (c.toNat ≤ 126)) || decide (c.toNat = 10)
def strOk (l : List UInt8) : Bool := decide (l.length ≤ 100) && l.all strC
def txtOk (k : Int) (t : List UInt8) : Bool :=
  if k = 1 then okN t else if k = 2 then symOk t else if k = 3 then strOk t else if k = 4 then (t == [116]) || (t == [102]) else isL k && (t == [])

/-- Is t met on the way up from the node at? (f: more than at.) -/
def inChain (l : List Dm) : Nat → Int → Int → Bool
  | 0, _, _ => false
  | f + 1, at_, t => if at_ < 0 then false else if at_ = t then true else inChain l f (du l at_.toNat) t
/-- How many lists are met on the way up from the node at? -/
def dep (l : List Dm) : Nat → Int → Nat
  | 0, _ => 0
  | f + 1, at_ => if at_ < 0 then 0 else (if isL (dk l at_.toNat) then 1 else 0) + dep l f (du l at_.toNat)
def upOk (l : List Dm) (k : Nat) : Bool := decide (du l k = -1) || (inChain l k ((k : Int) - 1) (du l k) && isL (dk l (du l k).toNat))
def deepOk (l : List Dm) (k : Nat) : Bool := decide (dep l (k + 1) (k : Int) ≤ 25)
/-- The parts of the list k among the first n nodes. -/
def prt (l : List Dm) (n k : Nat) : List Nat := (List.range n).filter (fun i => decide (k < i) && decide (du l i = (k : Int)))
def lastL (l : List Dm) (q : List Nat) : Bool := match q.getLast? with | some i => isL (dk l i) | none => false
def dotOk (l : List Dm) (k : Nat) : Bool := !(decide (dk l k = 6)) || (decide (2 ≤ (prt l l.length k).length) && !lastL l (prt l l.length k))
def nodeOk (l : List Dm) (k : Nat) : Bool := (upOk l k && (txtOk (dk l k) (dt l k).data.toList && deepOk l k)) && dotOk l k
def goodAll (l : List Dm) : Bool := decide (l.length ≤ 300) && (List.range l.length).all (nodeOk l)

/-- All nodes ahead of k lead up. -/
def Up (l : List Dm) (k : Nat) : Prop := ∀ i, i < k → -1 ≤ du l i ∧ du l i < (i : Int)

theorem Up.mono {l : List Dm} {k j : Nat} (h : Up l k) (hj : j ≤ k) : Up l j := fun i hi => h i (by omega)

theorem chain_le (l : List Dm) : ∀ (f : Nat) (k : Nat) (a t : Int), Up l k → a < (k : Int) → inChain l f a t = true → 0 ≤ t ∧ t ≤ a
  | 0, k, a, t, hU, ha, h => by simp [inChain] at h
  | f + 1, k, a, t, hU, ha, h => by
    unfold inChain at h
    by_cases h0 : a < 0
    · rw [if_pos h0] at h; cases h
    · rw [if_neg h0] at h
      by_cases h1 : a = t
      · omega
      · rw [if_neg h1] at h
        have hu := hU a.toNat (by omega)
        have := chain_le l f k _ t hU (by omega) h
        omega

theorem upOk_up {l : List Dm} {k : Nat} (hU : Up l k) (h : upOk l k = true) : -1 ≤ du l k ∧ du l k < (k : Int) := by
  unfold upOk at h
  simp only [Bool.or_eq_true, Bool.and_eq_true, decide_eq_true_eq] at h
  rcases h with h | h
  · omega
  · have := chain_le l k k _ _ hU (by omega) h.1
    omega
theorem Up.succ {l : List Dm} {k : Nat} (hU : Up l k) (h : upOk l k = true) : Up l (k + 1) := fun i hi => by
  by_cases e : i = k
  · subst e; exact upOk_up hU h
  · exact hU i (by omega)
theorem upOk_list {l : List Dm} {k : Nat} (h : upOk l k = true) (h0 : 0 ≤ du l k) : isL (dk l (du l k).toNat) = true := by
  unfold upOk at h
  simp only [Bool.or_eq_true, Bool.and_eq_true, decide_eq_true_eq] at h
  rcases h with h | h
  · omega
  · exact h.2

theorem chain_step {l : List Dm} {f : Nat} {a t : Int} (h0 : 0 ≤ a) (h1 : a ≠ t) : inChain l (f + 1) a t = inChain l f (du l a.toNat) t := by
  rw [inChain, if_neg (by omega), if_neg h1]
theorem chain_hit {l : List Dm} {f : Nat} {a : Int} (h0 : 0 ≤ a) : inChain l (f + 1) a a = true := by
  rw [inChain, if_neg (by omega), if_pos rfl]
theorem chain_end {l : List Dm} {f : Nat} {a t : Int} (h0 : a < 0) : inChain l f a t = false := by
  cases f with
  | zero => rfl
  | succ f => rw [inChain, if_pos h0]
theorem dep_end {l : List Dm} {f : Nat} {a : Int} (h0 : a < 0) : dep l f a = 0 := by
  cases f with
  | zero => rfl
  | succ f => rw [dep, if_pos h0]
theorem dep_step {l : List Dm} {f : Nat} {a : Int} (h0 : 0 ≤ a) : dep l (f + 1) a = (if isL (dk l a.toNat) then 1 else 0) + dep l f (du l a.toNat) := by
  rw [dep, if_neg (by omega)]

/-- The fuel does not matter. -/
theorem dep_fuel (l : List Dm) : ∀ (f g : Nat) (k : Nat) (a : Int), Up l k → a < (k : Int) → a < (f : Int) → a < (g : Int) → dep l f a = dep l g a
  | 0, g, k, a, hU, hk, hf, hg => by rw [dep_end (by omega), dep_end (by omega)]
  | f + 1, 0, k, a, hU, hk, hf, hg => by rw [dep_end (by omega), dep_end (by omega)]
  | f + 1, g + 1, k, a, hU, hk, hf, hg => by
    by_cases h0 : a < 0
    · rw [dep_end h0, dep_end h0]
    · rw [dep_step (by omega), dep_step (by omega)]
      have hu := hU a.toNat (by omega)
      rw [dep_fuel l f g k _ hU (by omega) (by omega) (by omega)]

/-- How many lists are around the node k. -/
def arnd (l : List Dm) (k : Nat) : Nat := dep l k (du l k)
theorem deep_arnd {l : List Dm} {k : Nat} : dep l (k + 1) (k : Int) = (if isL (dk l k) then 1 else 0) + arnd l k := by
  rw [dep_step (by omega), Int.toNat_natCast]; rfl
theorem arnd_none {l : List Dm} {k : Nat} (h : du l k < 0) : arnd l k = 0 := dep_end h
theorem arnd_some {l : List Dm} {k j : Nat} (hU : Up l k) (hj : du l k = (j : Int)) (hjk : j < k) (hl : isL (dk l j) = true) : arnd l k = arnd l j + 1 := by
  unfold arnd
  obtain ⟨m, rfl⟩ : ∃ m, k = m + 1 := ⟨k - 1, by omega⟩
  rw [hj, dep_step (by omega), Int.toNat_natCast, if_pos hl]
  have hu := hU j hjk
  rw [dep_fuel l m j (m + 1) (du l j) hU (by omega) (by omega) (by omega)]
  omega

theorem node_bad {l : List Dm} {k : Nat} (hk : k < l.length) (h : nodeOk l k = false) : goodAll l = false := by
  unfold goodAll
  have : (List.range l.length).all (nodeOk l) = false := by
    rw [List.all_eq_false]
    exact ⟨k, List.mem_range.2 hk, by rw [h]; decide⟩
  rw [this, Bool.and_false]
theorem node_all {l : List Dm} (hn : l.length ≤ 300) (h : ∀ k, k < l.length → nodeOk l k = true) : goodAll l = true := by
  unfold goodAll
  rw [decide_eq_true hn, Bool.true_and, List.all_eq_true]
  intro k hk
  exact h k (List.mem_range.1 hk)
theorem node_upBad {l : List Dm} {k : Nat} (h : upOk l k = false) : nodeOk l k = false := by unfold nodeOk; rw [h]; rfl
theorem node_txtBad {l : List Dm} {k : Nat} (h : txtOk (dk l k) (dt l k).data.toList = false) : nodeOk l k = false := by unfold nodeOk; rw [h]; simp
theorem node_deepBad {l : List Dm} {k : Nat} (h : deepOk l k = false) : nodeOk l k = false := by unfold nodeOk; rw [h]; simp
theorem node_dotBad {l : List Dm} {k : Nat} (h : dotOk l k = false) : nodeOk l k = false := by unfold nodeOk; rw [h]; simp
theorem node_ok {l : List Dm} {k : Nat} (h1 : upOk l k = true) (h2 : txtOk (dk l k) (dt l k).data.toList = true) (h3 : deepOk l k = true) (h4 : dotOk l k = true) : nodeOk l k = true := by
  unfold nodeOk; rw [h1, h2, h3, h4]; rfl
theorem node_up {l : List Dm} {k : Nat} (h : nodeOk l k = true) : upOk l k = true := by
  unfold nodeOk at h; simp only [Bool.and_eq_true] at h; exact h.1.1

/-- One node more: it is a part of the list that it is in. -/
theorem prt_snoc (l : List Dm) (n k : Nat) : prt l (n + 1) k = prt l n k ++ (if k < n ∧ du l n = (k : Int) then [n] else []) := by
  unfold prt
  rw [List.range_succ, List.filter_append]
  congr 1
  by_cases h : k < n ∧ du l n = (k : Int)
  · rw [if_pos h]; simp [h.1, h.2]
  · rw [if_neg h]
    have : ¬ (k < n ∧ du l n = (k : Int)) := h
    simp only [List.filter_cons, List.filter_nil]
    rw [if_neg (by simpa using this)]
theorem lastL_snoc (l : List Dm) (q : List Nat) (n : Nat) : lastL l (q ++ [n]) = isL (dk l n) := by
  unfold lastL; simp
theorem prt_mem {l : List Dm} {n k i : Nat} (h : i ∈ prt l n k) : i < n := by
  unfold prt at h
  exact List.mem_range.1 (List.mem_filter.1 h).1
theorem prt_len (l : List Dm) (n k : Nat) : (prt l n k).length ≤ n := by
  unfold prt
  have := List.length_filter_le (fun i => decide (k < i) && decide (du l i = (k : Int))) (List.range n)
  simpa using this
theorem prt_low (l : List Dm) (k : Nat) : ∀ n, n ≤ k + 1 → prt l n k = []
  | 0, _ => rfl
  | n + 1, h => by rw [prt_snoc, prt_low l k n (by omega), if_neg (by omega)]; rfl
end Go.Proofs.YtjgpjafndaikcaaGreatDoor

/-
  Good data as trees, told as texts: plain facts.
-/
namespace Go.Proofs.YtjgpjafndaikcaaGreatDoor
set_option linter.unusedVariables false

/-- A string's bytes as they are told. -/
def escB (c : UInt8) : List UInt8 := if c = 34 ∨ c = 92 then [92, c] else if c = 10 then [92, 110] else [c]
def quo (t : List UInt8) : List UInt8 := 34 :: (t.flatMap escB ++ [34])
/-- The parts of a list up (-1: of all), among the first n nodes. -/
def kid (l : List Dm) (n : Nat) (u : Int) : List Nat := (List.range n).filter (fun i => decide (u < (i : Int)) && decide (du l i = u))
/-- Parts told one behind the other; the last one of m behind a dot, where it must be. -/
def jn (g : Nat → List UInt8) (dot : Bool) (m : Nat) (q : List Nat) : Nat → List UInt8
  | 0 => []
  | i + 1 => jn g dot m q i ++ ((if 0 < i then [32] else []) ++ ((if dot && decide (i + 1 = m) then [46, 32] else []) ++ g (q.getD i 0)))
def dotK (l : List Dm) (u : Int) : Bool := decide (0 ≤ u) && decide (dk l u.toNat = 6)
def jnK (l : List Dm) (g : Nat → List UInt8) (n : Nat) (u : Int) : List UInt8 := jn g (dotK l u) (kid l l.length u).length (kid l n u) (kid l n u).length
/-- A node's text. -/
def tx (l : List Dm) : Nat → Nat → List UInt8
  | 0, _ => []
  | f + 1, k => if dk l k = 3 then quo (dt l k).data.toList else if dk l k = 4 then 35 :: (dt l k).data.toList else if dk l k = 1 ∨ dk l k = 2 then (dt l k).data.toList else 40 :: (jnK l (tx l f) l.length (k : Int) ++ [41])
def TX (l : List Dm) (k : Nat) : List UInt8 := tx l (l.length - k) k

theorem jn_congr {g g' : Nat → List UInt8} {dot : Bool} {m : Nat} {q : List Nat} : ∀ i, i ≤ q.length → (∀ x ∈ q, g x = g' x) → jn g dot m q i = jn g' dot m q i
  | 0, _, _ => rfl
  | i + 1, hi, h => by
    rw [jn, jn, jn_congr i (by omega) h, h (q.getD i 0) (by simp only [List.getD, List.getElem?_eq_getElem (show i < q.length by omega), Option.getD_some]; exact List.getElem_mem _)]
theorem jn_snoc {g : Nat → List UInt8} {dot : Bool} {m : Nat} {q : List Nat} {p : Nat} : ∀ i, i ≤ q.length → jn g dot m (q ++ [p]) i = jn g dot m q i
  | 0, _ => rfl
  | i + 1, hi => by
    rw [jn, jn, jn_snoc i (by omega)]
    congr 4
    simp only [List.getD, List.getElem?_append_left (show i < q.length by omega)]
theorem kid_mem {l : List Dm} {n : Nat} {u : Int} {i : Nat} (h : i ∈ kid l n u) : i < n ∧ u < (i : Int) ∧ du l i = u := by
  unfold kid at h
  obtain ⟨h1, h2⟩ := List.mem_filter.1 h
  simp at h2
  exact ⟨List.mem_range.1 h1, h2.1, h2.2⟩
theorem kid_prt (l : List Dm) (n k : Nat) : kid l n (k : Int) = prt l n k := by
  unfold kid prt
  congr 1
  funext i
  congr 1
  exact decide_eq_decide.2 (by omega)
theorem kid_snoc (l : List Dm) (n : Nat) (u : Int) : kid l (n + 1) u = kid l n u ++ (if u < (n : Int) ∧ du l n = u then [n] else []) := by
  unfold kid
  rw [List.range_succ, List.filter_append]
  congr 1
  by_cases h : u < (n : Int) ∧ du l n = u
  · rw [if_pos h]; simp [h.1, h.2]
  · rw [if_neg h]
    simp only [List.filter_cons, List.filter_nil]
    rw [if_neg (by simpa using h)]
/-- Nodes that are no parts change nothing. -/
theorem kid_skip (l : List Dm) (u : Int) (a : Nat) : ∀ e, a ≤ e → (∀ j, a ≤ j → j < e → ¬ (u < (j : Int) ∧ du l j = u)) → kid l e u = kid l a u
  | 0, h, _ => by rw [show a = 0 by omega]
  | e + 1, h, hj => by
    by_cases he : a = e + 1
    · rw [he]
    · rw [kid_snoc, kid_skip l u a e (by omega) (fun j h1 h2 => hj j h1 (by omega)), if_neg (hj e (by omega) (by omega)), List.append_nil]

/-- The fuel does not matter. -/
theorem tx_fuel (l : List Dm) : ∀ (f f' k : Nat), l.length - k ≤ f → l.length - k ≤ f' → k < l.length → tx l f k = tx l f' k
  | 0, f', k, h, h', hk => by omega
  | f + 1, 0, k, h, h', hk => by omega
  | f + 1, f' + 1, k, h, h', hk => by
    rw [tx, tx]
    have : jnK l (tx l f) l.length (k : Int) = jnK l (tx l f') l.length (k : Int) := by
      unfold jnK
      refine jn_congr _ (Nat.le_refl _) (fun x hx => ?_)
      have hm := kid_mem hx
      exact tx_fuel l f f' x (by omega) (by omega) hm.1
    rw [this]
theorem TX_eq {l : List Dm} {k : Nat} (hk : k < l.length) : TX l k = if dk l k = 3 then quo (dt l k).data.toList else if dk l k = 4 then 35 :: (dt l k).data.toList else if dk l k = 1 ∨ dk l k = 2 then (dt l k).data.toList else 40 :: (jnK l (TX l) l.length (k : Int) ++ [41]) := by
  unfold TX
  obtain ⟨f, hf⟩ : ∃ f, l.length - k = f + 1 := ⟨l.length - k - 1, by omega⟩
  rw [hf, tx]
  have : jnK l (tx l f) l.length (k : Int) = jnK l (fun x => tx l (l.length - x) x) l.length (k : Int) := by
    unfold jnK
    refine jn_congr _ (Nat.le_refl _) (fun x hx => ?_)
    have hm := kid_mem hx
    exact tx_fuel l f (l.length - x) x (by omega) (Nat.le_refl _) hm.1
  rw [this]
/-- One part more. -/
theorem jnK_snoc {l : List Dm} {a e : Nat} {u : Int} (g : Nat → List UInt8) (h : kid l e u = kid l a u ++ [a]) :
    jnK l g e u = jnK l g a u ++ ((if 0 < (kid l a u).length then [32] else []) ++ ((if dotK l u && decide ((kid l a u).length + 1 = (kid l l.length u).length) then [46, 32] else []) ++ g a)) := by
  unfold jnK
  rw [h, List.length_append, List.length_singleton, jn, jn_snoc _ (Nat.le_refl _)]
  congr 3
  simp [List.getD]

/-- All nodes are as they should be. -/
def AllUp (l : List Dm) : Prop := ∀ k, k < l.length → upOk l k = true
theorem AllUp.up {l : List Dm} (h : AllUp l) : ∀ k, k ≤ l.length → Up l k
  | 0, _ => fun i hi => by omega
  | k + 1, hk => (h.up k (by omega)).succ (h k (by omega))
/-- The first node behind all that is in u. -/
structure IsNx (l : List Dm) (u : Int) (e : Nat) : Prop where
  lo : u < (e : Int)
  hi : e ≤ l.length
  mid : ∀ j : Nat, u < (j : Int) → j < e → u ≤ du l j
  out : e < l.length → du l e < u

/-- What is met on the way up from within c, and is ahead of c, is met from c's own list on. -/
theorem chain_sub {l : List Dm} {c : Nat} {t : Int} (hA : AllUp l) : ∀ (m f : Nat), c ≤ m → m < l.length → (∀ j, c < j → j ≤ m → (c : Int) ≤ du l j) → inChain l f (m : Int) t = true → t < (c : Int) → t ≤ du l c
  | m, 0, h1, h2, h3, h4, h5 => by simp [inChain] at h4
  | m, f + 1, h1, h2, h3, h4, h5 => by
    rw [chain_step (by omega) (by omega), Int.toNat_natCast] at h4
    have hU := hA.up l.length (Nat.le_refl _)
    by_cases e : m = c
    · subst e
      exact (chain_le l f l.length _ t hU (by have := hU m h2; omega) h4).2
    · have hc := h3 m (by omega) (Nat.le_refl _)
      have hu := hU m h2
      have : inChain l f (((du l m).toNat : Nat) : Int) t = true := by rw [show (((du l m).toNat : Nat) : Int) = du l m by omega]; exact h4
      exact chain_sub hA (du l m).toNat f (by omega) (by omega) (fun j hj1 hj2 => h3 j hj1 (by omega)) this h5
/-- What is met on the way up from a part. -/
theorem chain_in {l : List Dm} {j : Nat} (hA : AllUp l) (hj : j < l.length) : du l j = -1 ∨ inChain l j ((j : Int) - 1) (du l j) = true := by
  have h := hA j hj
  unfold upOk at h
  simp only [Bool.or_eq_true, Bool.and_eq_true, decide_eq_true_eq] at h
  rcases h with h | h
  · exact .inl h
  · exact .inr h.1
/-- The node behind all that is in c leads to c's list or further up. -/
theorem nx_le {l : List Dm} {c e : Nat} (hA : AllUp l) (h : IsNx l (c : Int) e) (he : e < l.length) : du l e ≤ du l c := by
  have hU := hA.up l.length (Nat.le_refl _)
  have hlo := h.lo
  have hcl : c < l.length := by omega
  rcases chain_in hA he with h1 | h1
  · have := hU c hcl; omega
  · obtain ⟨m, rfl⟩ : ∃ m, e = m + 1 := ⟨e - 1, by omega⟩
    have h2 : inChain l (m + 1) (m : Int) (du l (m + 1)) = true := by rw [show ((m : Nat) : Int) = ((m + 1 : Nat) : Int) - 1 by omega]; exact h1
    exact chain_sub hA m (m + 1) (by omega) (by omega) (fun j hj1 hj2 => h.mid j (by omega) (by omega)) h2 (h.out he)

/-- Behind all that is in u nothing is in u. -/
theorem no_later {l : List Dm} {u : Int} {e : Nat} (hA : AllUp l) (h : IsNx l u e) (hu : 0 ≤ u) : ∀ j, e ≤ j → j < l.length → (∀ f, inChain l f (j : Int) u = false) ∧ du l j ≠ u
  | 0, h1, h2 => by have := h.lo; omega
  | j + 1, h1, h2 => by
    have hU := hA.up l.length (Nat.le_refl _)
    have hne : du l (j + 1) ≠ u := by
      by_cases e1 : e = j + 1
      · subst e1; have := h.out h2; omega
      · obtain ⟨ih, _⟩ := no_later hA h hu j (by omega) (by omega)
        rcases chain_in hA h2 with h3 | h3
        · omega
        · intro e2
          rw [e2] at h3
          have := ih (j + 1)
          rw [show ((j : Nat) : Int) = ((j + 1 : Nat) : Int) - 1 by omega] at this
          rw [this] at h3; cases h3
    refine ⟨fun f => ?_, hne⟩
    cases f with
    | zero => rfl
    | succ f =>
      have hlo := h.lo
      rw [chain_step (by omega) (by omega), Int.toNat_natCast]
      have hd := hU (j + 1) h2
      by_cases e1 : e = j + 1
      · subst e1
        have ho := h.out h2
        cases hc : inChain l f (du l (j + 1)) u with
        | false => rfl
        | true => have := chain_le l f l.length _ u hU (by omega) hc; omega
      · obtain ⟨ih, _⟩ := no_later hA h hu j (by omega) (by omega)
        rcases chain_in hA h2 with h3 | h3
        · rw [h3]; exact chain_end (by omega)
        · cases hc : inChain l f (du l (j + 1)) u with
          | false => rfl
          | true =>
            have h4 := chain_trans l (j + 1) f _ _ u h3 hc
            obtain ⟨f', h4⟩ := h4
            have := ih f'
            rw [show ((j : Nat) : Int) = ((j + 1 : Nat) : Int) - 1 by omega] at this
            rw [this] at h4; cases h4
where
  chain_trans (l : List Dm) : ∀ (f g : Nat) (a b t : Int), inChain l f a b = true → inChain l g b t = true → ∃ h, inChain l h a t = true
    | 0, g, a, b, t, h, _ => by simp [inChain] at h
    | f + 1, g, a, b, t, h, h' => by
      by_cases ha : a < 0
      · rw [inChain, if_pos ha] at h; cases h
      · by_cases hab : a = b
        · subst hab; exact ⟨g, h'⟩
        · rw [chain_step (by omega) hab] at h
          obtain ⟨k, hk⟩ := chain_trans l f g _ b t h h'
          by_cases hat : a = t
          · exact ⟨1, by rw [hat]; exact chain_hit (by omega)⟩
          · exact ⟨k + 1, by rw [chain_step (by omega) hat]; exact hk⟩

/-- Where a part of u, or what is behind all of them, begins. -/
structure AtPart (l : List Dm) (u : Int) (a : Nat) : Prop where
  lo : u < (a : Int)
  hi : a ≤ l.length
  mid : ∀ j : Nat, u < (j : Int) → j < a → u ≤ du l j
  out : a < l.length → du l a ≤ u
  some : 0 < (kid l a u).length ↔ u + 1 < (a : Int)

theorem kid_low (l : List Dm) (u : Int) (a : Nat) (h : (a : Int) ≤ u + 1) : kid l a u = [] := by
  rw [List.eq_nil_iff_forall_not_mem]
  intro i hi
  have := kid_mem hi
  omega
theorem AtPart.start {l : List Dm} {u : Int} {a : Nat} (hA : AllUp l) (ha : (a : Int) = u + 1) (hl : a ≤ l.length) : AtPart l u a := by
  refine ⟨by omega, hl, fun j h1 h2 => by omega, fun h => ?_, ?_⟩
  · have := hA.up l.length (Nat.le_refl _) a h; omega
  · rw [kid_low l u a (by omega)]; simp; omega
theorem AtPart.step {l : List Dm} {u : Int} {a e : Nat} (hA : AllUp l) (h : AtPart l u a) (ha : a < l.length) (hu : du l a = u) (hn : IsNx l (a : Int) e) : AtPart l u e ∧ kid l e u = kid l a u ++ [a] := by
  have hlo := h.lo
  have hne := hn.lo
  have hk : kid l e u = kid l a u ++ [a] := by
    rw [kid_skip l u (a + 1) e (by omega) (fun j h1 h2 => by have := hn.mid j (by omega) h2; omega), kid_snoc, if_pos ⟨hlo, hu⟩]
  refine ⟨⟨by omega, hn.hi, fun j h1 h2 => ?_, fun h1 => ?_, ?_⟩, hk⟩
  · by_cases e1 : j < a
    · exact h.mid j h1 e1
    · by_cases e2 : j = a
      · subst e2; omega
      · have := hn.mid j (by omega) h2; omega
  · have := nx_le hA hn h1; omega
  · rw [hk]; simp; omega
theorem AtPart.done {l : List Dm} {u : Int} {a : Nat} (hA : AllUp l) (h : AtPart l u a) (hx : a < l.length → du l a ≠ u) : IsNx l u a ∧ kid l l.length u = kid l a u := by
  have hI : IsNx l u a := ⟨h.lo, h.hi, h.mid, fun h1 => by have := h.out h1; have := hx h1; omega⟩
  refine ⟨hI, kid_skip l u a l.length h.hi (fun j h1 h2 h3 => ?_)⟩
  have hU := hA.up l.length (Nat.le_refl _)
  by_cases hu : 0 ≤ u
  · exact (no_later hA hI hu j h1 h2).2 h3.2
  · have h4 := hI.out (by omega)
    have h5 := hU a (by omega)
    have h6 := h.lo
    have h7 := hU j h2
    omega
/-- A node that is no list has nothing in it. -/
theorem nx_leaf {l : List Dm} {a : Nat} (hA : AllUp l) (ha : a < l.length) (hl : isL (dk l a) = false) : IsNx l (a : Int) (a + 1) := by
  refine ⟨by omega, by omega, fun j h1 h2 => by omega, fun h1 => ?_⟩
  have h2 := hA.up l.length (Nat.le_refl _) (a + 1) h1
  by_cases e : du l (a + 1) = (a : Int)
  · have h3 := upOk_list (hA (a + 1) h1) (by omega)
    rw [e, Int.toNat_natCast, hl] at h3; cases h3
  · omega
/-- Whether a part stands behind the dot. -/
def behB (l : List Dm) (a : Nat) : Bool := dotK l (du l a) && (!isL (dk l a) && (decide (a + 1 = l.length) || !decide (du l (a + 1) = du l a)))
theorem beh_eq {l : List Dm} {u : Int} {a : Nat} (hA : AllUp l) (hD : ∀ k, k < l.length → dotOk l k = true) (h : AtPart l u a) (ha : a < l.length) (hu : du l a = u) : behB l a = (dotK l u && decide ((kid l a u).length + 1 = (kid l l.length u).length)) := by
  have hlo := h.lo
  have hk1 : kid l (a + 1) u = kid l a u ++ [a] := by rw [kid_snoc, if_pos ⟨hlo, hu⟩]
  unfold behB
  rw [hu]
  cases hdk : dotK l u with
  | false => rfl
  | true =>
    have hd2 : 0 ≤ u ∧ dk l u.toNat = 6 := by unfold dotK at hdk; simpa using hdk
    rw [Bool.true_and, Bool.true_and]
    cases hl : isL (dk l a) with
    | true =>
      rw [Bool.not_true, Bool.false_and]
      symm
      apply decide_eq_false
      intro hlen
      have hdo := hD u.toNat (by omega)
      unfold dotOk at hdo
      rw [decide_eq_true hd2.2, ← kid_prt, show ((u.toNat : Nat) : Int) = u by omega] at hdo
      have hpre : kid l l.length u = kid l (a + 1) u := by
        have hp : ∃ t, kid l l.length u = kid l (a + 1) u ++ t := by
          unfold kid
          refine ⟨((List.range (l.length - (a + 1))).map ((a + 1) + ·)).filter (fun i => decide (u < (i : Int)) && decide (du l i = u)), ?_⟩
          rw [← List.filter_append, ← List.range_add, show a + 1 + (l.length - (a + 1)) = l.length by omega]
        obtain ⟨t, ht⟩ := hp
        have hz : t = [] := by
          have h1 : (kid l l.length u).length = (kid l (a + 1) u).length + t.length := by rw [ht, List.length_append]
          rw [hk1, List.length_append, List.length_singleton] at h1
          exact List.length_eq_zero_iff.1 (by omega)
        rw [ht, hz, List.append_nil]
      rw [hpre, hk1, lastL_snoc, hl] at hdo
      simp at hdo
    | false =>
      rw [Bool.not_false, Bool.true_and]
      obtain ⟨hP, hke⟩ := h.step hA ha hu (nx_leaf hA ha hl)
      by_cases he : a + 1 = l.length
      · rw [decide_eq_true he, Bool.true_or]
        symm
        apply decide_eq_true
        rw [← he, hke]; simp
      · rw [decide_eq_false he, Bool.false_or]
        by_cases hq : du l (a + 1) = u
        · rw [decide_eq_true hq]
          symm
          apply decide_eq_false
          intro hlen
          have hp : ∃ t, kid l l.length u = kid l (a + 1 + 1) u ++ t := by
            unfold kid
            refine ⟨((List.range (l.length - (a + 1 + 1))).map ((a + 1 + 1) + ·)).filter (fun i => decide (u < (i : Int)) && decide (du l i = u)), ?_⟩
            rw [← List.filter_append, ← List.range_add, show a + 1 + 1 + (l.length - (a + 1 + 1)) = l.length by omega]
          obtain ⟨t, ht⟩ := hp
          have h1 : (kid l l.length u).length = (kid l (a + 1 + 1) u).length + t.length := by rw [ht, List.length_append]
          rw [kid_snoc, if_pos ⟨by omega, hq⟩, hk1] at h1
          simp at h1
          omega
        · rw [decide_eq_false hq]
          obtain ⟨_, hd3⟩ := hP.done hA (fun _ => hq)
          symm
          apply decide_eq_true
          rw [hd3, hke]; simp
end Go.Proofs.YtjgpjafndaikcaaGreatDoor

/-
  Data in memory: a row of nodes, three cells each.
-/
namespace Go.Proofs.YtjgpjafndaikcaaGreatDoor
open Go.RowKit
set_option linter.unusedVariables false

def dmL (d : Dm) : List Value := [.int .i64 d.k, .string d.t, .int .i64 d.u]
def datC (l : List Dm) : Array Value := (l.flatMap dmL).toArray
def DatAt (w : World) (b : Nat) (l : List Dm) : Prop := RowAt w b 38 (datC l)
theorem flat_get : ∀ (l : List Dm) (i j : Nat) (hi : i < l.length), j < 3 → (l.flatMap dmL)[3 * i + j]? = (dmL l[i])[j]?
  | d :: l, 0, j, hi, hj => by
    rw [List.flatMap_cons, List.getElem?_append_left (by simp [dmL]; omega)]; simp
  | d :: l, i + 1, j, hi, hj => by
    rw [List.flatMap_cons, List.getElem?_append_right (by simp [dmL]; omega)]
    have : 3 * (i + 1) + j - (dmL d).length = 3 * i + j := by simp [dmL]; omega
    rw [this, flat_get l i j (by simpa using hi) hj]; simp
theorem dat_len (l : List Dm) : (l.flatMap dmL).length = 3 * l.length := by
  induction l with
  | nil => rfl
  | cons d l ih => rw [List.flatMap_cons, List.length_append, ih]; simp [dmL]; omega
theorem getD_at (l : List Dm) (i : Nat) (hi : i < l.length) : l.getD i default = l[i] := by simp [List.getD, List.getElem?_eq_getElem hi]
theorem dat_cell {w : World} {b : Nat} {l : List Dm} (h : DatAt w b l) (i j : Nat) (hi : i < l.length) (hj : j < 3) (v : Value) (hv : (dmL (l.getD i default))[j]? = some v) : w.cell? ⟨b, 3 * i + j, none⟩ = some v := by
  rw [cell_of_row w b _ _ _ _ h]
  show (l.flatMap dmL).toArray[3 * i + j]? = some v
  rw [List.getElem?_toArray, flat_get l i j hi hj, ← getD_at l i hi]
  exact hv
theorem dat_k {w : World} {b : Nat} {l : List Dm} (h : DatAt w b l) {i : Nat} (hi : i < l.length) : w.cell? ⟨b, i * 3, none⟩ = some (.int .i64 (dk l i)) := by
  have := dat_cell h i 0 hi (by decide) (.int .i64 (dk l i)) rfl
  rwa [show 3 * i + 0 = i * 3 by omega] at this
theorem dat_t {w : World} {b : Nat} {l : List Dm} (h : DatAt w b l) {i : Nat} (hi : i < l.length) : w.cell? ⟨b, i * 3 + 1, none⟩ = some (.string (dt l i)) := by
  have := dat_cell h i 1 hi (by decide) (.string (dt l i)) rfl
  rwa [show 3 * i + 1 = i * 3 + 1 by omega] at this
theorem dat_u {w : World} {b : Nat} {l : List Dm} (h : DatAt w b l) {i : Nat} (hi : i < l.length) : w.cell? ⟨b, i * 3 + 2, none⟩ = some (.int .i64 (du l i)) := by
  have := dat_cell h i 2 hi (by decide) (.int .i64 (du l i)) rfl
  rwa [show 3 * i + 2 = i * 3 + 2 by omega] at this
/-- The slice of a row's all nodes. -/
abbrev slV (b : Nat) (l : List Dm) : Value := .slice (some ⟨b, 0, none⟩) l.length l.length

set_option maxHeartbeats 1000000 in
set_option maxRecDepth 100000 in
theorem isList_any (k : Int) (w : World) : Calls Tryz.prog 39 #[.int .i64 k] w fun e w' => e = .returned (.bool (isL k)) ∧ w' = w := by
  by_cases h5 : k = 5
  · subst h5
    go_enter Tryz.func39, Tryz.ntmps39
    go_wp2
    go_ret
    exact ⟨rfl, rfl⟩
  · have h5' : (k == 5) = false := beq_eq_false_iff_ne.2 h5
    have HN : Hid (isL k = (k == 6)) := by
      unfold Hid isL; rw [decide_eq_false h5, Bool.false_or]; rfl
    clear h5
    go_enter Tryz.func39, Tryz.ntmps39
    go_wp2
    go_ret
    exact ⟨by rw [HN.out]; rfl, rfl⟩
set_option maxHeartbeats 1000000 in
set_option maxRecDepth 100000 in
theorem l3IsList_any (k : Int) (w : World) : Calls Tryz.prog 21 #[.int .i64 k] w fun e w' => e = .returned (.bool (isL k)) ∧ w' = w := by
  by_cases h5 : k = 5
  · subst h5
    go_enter Tryz.func21, Tryz.ntmps21
    go_wp2
    go_ret
    exact ⟨rfl, rfl⟩
  · have h5' : (k == 5) = false := beq_eq_false_iff_ne.2 h5
    have HN : Hid (isL k = (k == 6)) := by
      unfold Hid isL; rw [decide_eq_false h5, Bool.false_or]; rfl
    clear h5
    go_enter Tryz.func21, Tryz.ntmps21
    go_wp2
    go_ret
    exact ⟨by rw [HN.out]; rfl, rfl⟩

theorem upOk_hit {l : List Dm} {k j : Nat} (hy : (j : Int) = du l k) (h : inChain l k ((k : Int) - 1) (j : Int) = true) : upOk l k = isL (dk l j) := by
  unfold upOk
  rw [← hy, h, decide_eq_false (by omega), Int.toNat_natCast]; rfl
theorem upOk_end {l : List Dm} {k : Nat} (h : inChain l k ((k : Int) - 1) (du l k) = false) : upOk l k = decide (du l k = -1) := by
  unfold upOk
  rw [h, Bool.false_and, Bool.or_false]

set_option maxHeartbeats 1000000 in
set_option maxRecDepth 100000 in
theorem goodUp_any (b : Nat) (l : List Dm) (k : Nat) (x : Int) (w : World) (hx : x = (k : Int)) (hk : k < l.length) (hn : l.length ≤ 300) (hD : DatAt w b l) (hU : Up l k) :
    Calls Tryz.prog 27 #[slV b l, .int .i64 x] w fun e w' => e = .returned (.bool (upOk l k)) ∧ w' = w := by
  have HD := hideT' hD
  have HU := hideT' hU
  have hcu := dat_u hD hk
  subst hx
  obtain ⟨y, hy⟩ : ∃ y, y = du l k := ⟨_, rfl⟩
  rw [← hy] at hcu
  have HY := hideT' hy
  clear hD hU hy
  go_enter Tryz.func27, Tryz.ntmps27
  go_wp2_with fail
  go_loopg [5] k (fun g i wr => ∃ (a : Int), i = .int .i64 a ∧ -1 ≤ a ∧ a < (g : Int) ∧ g ≤ k ∧ Hid (inChain l g a y = inChain l k ((k : Int) - 1) y) ∧ wr = w)
  case atStart => exact ⟨(k : Int) - 1, by go_num, by omega, by omega, by omega, rfl, rfl⟩
  case round =>
    obtain ⟨a, rfl, ha, hag, hgk, HC, rfl⟩ := hrel
    by_cases h0 : 0 ≤ a
    · obtain ⟨j, rfl⟩ : ∃ j : Nat, a = (j : Int) := ⟨a.toNat, by omega⟩
      have hcu2 := dat_u HD.out (show j < l.length by omega)
      have hck2 := dat_k HD.out (show j < l.length by omega)
      by_cases h1 : (j : Int) = y
      · subst h1
        have HN : Hid (upOk l k = isL (dk l j)) := upOk_hit HY.out (by
          obtain ⟨g', rfl⟩ : ∃ g', gk = g' + 1 := ⟨gk - 1, by omega⟩
          rw [← HC.out]; exact chain_hit h0)
        go_wp2_with fail
        refine (isList_any _ _).mono ?_
        rintro e w' ⟨rfl, rfl⟩
        rw [← HN.out]
        obtain ⟨o, ho⟩ : ∃ o, o = upOk l k := ⟨_, rfl⟩
        rw [← ho]
        have HO := hideT' ho
        clear ho
        go_wp2
        go_ret
        exact ⟨by rw [← HO.out]; rfl, rfl⟩
      · have h1' : ((j : Int) == y) = false := beq_eq_false_iff_ne.2 h1
        have hu := HU.out j (by omega)
        have HC2 : Hid (inChain l (gk - 1) (du l j) y = inChain l k ((k : Int) - 1) y) := by
          unfold Hid
          obtain ⟨g', rfl⟩ : ∃ g', gk = g' + 1 := ⟨gk - 1, by omega⟩
          rw [← HC.out, chain_step h0 h1, Int.toNat_natCast]; rfl
        clear h1
        go_wp2
        go_roundg (gk - 1)
        case measure => omega
        case rel => exact ⟨du l j, rfl, hu.1, by omega, by omega, HC2, rfl⟩
    · have h1 : a = -1 := by omega
      subst h1
      have HN : Hid (upOk l k = decide (y = -1)) := by
        unfold Hid
        rw [HY.out]
        refine upOk_end ?_
        rw [← HY.out, ← HC.out]
        exact chain_end (by omega)
      by_cases h1 : y = -1
      · subst h1
        go_wp2
        go_ret
        exact ⟨by rw [HN.out]; rfl, rfl⟩
      · rw [decide_eq_false h1] at HN
        have h1' : ((-1 : Int) == y) = false := beq_eq_false_iff_ne.2 (fun e => h1 e.symm)
        clear h1
        go_wp2
        go_ret
        exact ⟨by rw [HN.out]; rfl, rfl⟩

set_option maxHeartbeats 1000000 in
set_option maxRecDepth 100000 in
theorem l3Around_any (b : Nat) (l : List Dm) (k : Nat) (x y : Int) (w : World) (hx : x = (k : Int)) (hy : y = du l k) (hk : k < l.length) (hn : l.length ≤ 300) (hD : DatAt w b l) (hU : Up l k) :
    Calls Tryz.prog 20 #[slV b l, .int .i64 x, .int .i64 y] w fun e w' => e = .returned (.bool (upOk l k)) ∧ w' = w := by
  have HD := hideT' hD
  have HU := hideT' hU
  subst hx
  have HY := hideT' hy
  clear hD hU hy
  by_cases hm : y = -1
  · have HN : Hid (upOk l k = true) := by unfold Hid upOk; rw [← HY.out, decide_eq_true hm]; rfl
    subst hm
    go_enter Tryz.func20, Tryz.ntmps20
    go_wp2
    go_ret
    exact ⟨by rw [HN.out]; rfl, rfl⟩
  · have hm' : (y == -1) = false := beq_eq_false_iff_ne.2 hm
    have HM := hideT' hm
    clear hm
    go_enter Tryz.func20, Tryz.ntmps20
    go_wp2_with fail
    go_loopg [7] k (fun g i wr => ∃ (a : Int), i = .int .i64 a ∧ -1 ≤ a ∧ a < (g : Int) ∧ g ≤ k ∧ Hid (inChain l g a y = inChain l k ((k : Int) - 1) y) ∧ wr = w)
    case atStart => exact ⟨(k : Int) - 1, by go_num, by omega, by omega, by omega, rfl, rfl⟩
    case round =>
      obtain ⟨a, rfl, ha, hag, hgk, HC, rfl⟩ := hrel
      by_cases h0 : 0 ≤ a
      · obtain ⟨j, rfl⟩ : ∃ j : Nat, a = (j : Int) := ⟨a.toNat, by omega⟩
        have hcu2 := dat_u HD.out (show j < l.length by omega)
        have hck2 := dat_k HD.out (show j < l.length by omega)
        by_cases h1 : (j : Int) = y
        · subst h1
          have HN : Hid (upOk l k = isL (dk l j)) := upOk_hit HY.out (by
            obtain ⟨g', rfl⟩ : ∃ g', gk = g' + 1 := ⟨gk - 1, by omega⟩
            rw [← HC.out]; exact chain_hit h0)
          go_wp2_with fail
          refine (l3IsList_any _ _).mono ?_
          rintro e w' ⟨rfl, rfl⟩
          rw [← HN.out]
          obtain ⟨o, ho⟩ : ∃ o, o = upOk l k := ⟨_, rfl⟩
          rw [← ho]
          have HO := hideT' ho
          clear ho
          go_wp2
          (try simp only [Exit.inBlock, Exit.then]); go_ret
          exact ⟨by rw [← HO.out]; rfl, rfl⟩
        · have h1' : ((j : Int) == y) = false := beq_eq_false_iff_ne.2 h1
          have hu := HU.out j (by omega)
          have HC2 : Hid (inChain l (gk - 1) (du l j) y = inChain l k ((k : Int) - 1) y) := by
            unfold Hid
            obtain ⟨g', rfl⟩ : ∃ g', gk = g' + 1 := ⟨gk - 1, by omega⟩
            rw [← HC.out, chain_step h0 h1, Int.toNat_natCast]; rfl
          clear h1
          go_wp2
          go_roundg (gk - 1)
          case measure => omega
          case rel => exact ⟨du l j, rfl, hu.1, by omega, by omega, HC2, rfl⟩
      · have h1 : a = -1 := by omega
        subst h1
        have HN : Hid (upOk l k = false) := by
          unfold Hid
          rw [upOk_end (by rw [← HY.out, ← HC.out]; exact chain_end (by omega)), ← HY.out, decide_eq_false HM.out]
        go_wp2
        go_ret
        exact ⟨by rw [HN.out]; rfl, rfl⟩
end Go.Proofs.YtjgpjafndaikcaaGreatDoor
