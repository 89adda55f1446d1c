/-
  The texts Symbol, DatMath, DatTree, RdMath, Dat, DatText, DatMem, one behind the other.
-/
import Derived.Test.YtnmofolhfbldjaaGreatDoorPkSpecReadNum
import Derived.Test.YtnmofolhfbldjaaGreatDoorShelfCut
import Derived.Test.YtnmofolhfbldjaaGreatDoorPkSpecMul
import Derived.Lib.IndexLaws
import Derived.Test.YtnmofolhfbldjaaGreatDoorPkSpecParts
import Derived.Test.YtnmofolhfbldjaaGreatDoorWhole

/-
  What a symbol is: plain facts, and what is told of a byte and of a text's bytes.
-/
namespace Go.Proofs.YtnmofolhfbldjaaGreatDoor
open Go.RowKit
set_option linter.unusedVariables false

/-- The signs that may stand in a symbol. -/
def marks : List UInt8 := [33, 36, 37, 38, 42, 47, 58, 60, 61, 62, 63, 94, 95, 126, 43, 45, 46, 64]
def letB (n : Nat) : Bool := ((decide (97 ≤ n) && decide (n ≤ 122)) || (decide (65 ≤ n) && decide (n ≤ 90))) || (decide (48 ≤ n) && decide (n ≤ 57))
def symB (c : UInt8) : Bool := letB c.toNat || marks.contains c
theorem letB_yes {n : Nat} (h : (97 ≤ n ∧ n ≤ 122) ∨ (65 ≤ n ∧ n ≤ 90) ∨ (48 ≤ n ∧ n ≤ 57)) : letB n = true := by
  unfold letB; simp; omega
theorem letB_no {n : Nat} (h : ¬ ((97 ≤ n ∧ n ≤ 122) ∨ (65 ≤ n ∧ n ≤ 90) ∨ (48 ≤ n ∧ n ≤ 57))) : letB n = false := by
  unfold letB; simp; omega
theorem sym_yes {c : UInt8} (h : letB c.toNat = true) : symB c = true := by unfold symB; rw [h]; rfl
theorem sym_no {c : UInt8} (h : letB c.toNat = false) : symB c = marks.contains c := by unfold symB; rw [h]; rfl

theorem index_marks (c : UInt8) : decide (0 ≤ Lib.indexByte marks c) = marks.contains c := by
  by_cases h : 0 ≤ Lib.indexByte marks c
  · obtain ⟨i, hi⟩ : ∃ i : Nat, Lib.indexByte marks c = (i : Int) := ⟨(Lib.indexByte marks c).toNat, by omega⟩
    obtain ⟨h1, _⟩ := Lib.indexByte_some hi
    rw [decide_eq_true h]
    symm
    rw [List.contains_iff_mem]
    exact List.mem_of_getElem? h1
  · have hge := Lib.indexByte_ge marks c
    have h1 : Lib.indexByte marks c = -1 := by omega
    have h2 := Lib.indexByte_none h1
    rw [decide_eq_false h]
    symm
    rw [Bool.eq_false_iff]
    intro hc
    rw [List.contains_iff_mem] at hc
    obtain ⟨i, hi⟩ := List.getElem?_of_mem hc
    exact h2 i hi

set_option maxHeartbeats 1000000 in
set_option maxRecDepth 100000 in
theorem inSymbol_any (c : UInt8) (x : Int) (w : World) (hx : x = (c.toNat : Int)) :
    Calls Tryz.prog 82 #[.int .u8 x] w fun e w' => e = .returned (.bool (symB c)) ∧ w' = w := by
  have HX := hideT' hx
  have hlt : x ≤ 255 := by have := c.toNat_lt; omega
  have h0 : 0 ≤ x := by omega
  cases hl : letB c.toNat with
  | true =>
    have HS := hideT' (sym_yes hl)
    have hr : (97 ≤ x ∧ x ≤ 122) ∨ (65 ≤ x ∧ x ≤ 90) ∨ (48 ≤ x ∧ x ≤ 57) := by
      unfold letB at hl; simp at hl; omega
    clear hl hx
    rcases hr with ⟨h1, h2⟩ | ⟨h1, h2⟩ | ⟨h1, h2⟩
    · go_enter Tryz.func82, Tryz.ntmps82
      go_wp2
      go_ret
      exact ⟨by rw [HS.out]; rfl, rfl⟩
    · have h3 : ¬ 97 ≤ x := by omega
      go_enter Tryz.func82, Tryz.ntmps82
      go_wp2
      go_ret
      exact ⟨by rw [HS.out]; rfl, rfl⟩
    · have h3 : ¬ 97 ≤ x := by omega
      have h4 : ¬ 65 ≤ x := by omega
      go_enter Tryz.func82, Tryz.ntmps82
      go_wp2
      go_ret
      exact ⟨by rw [HS.out]; rfl, rfl⟩
  | false =>
    have HS := hideT' (sym_no hl)
    have hr : (122 < x) ∨ (x < 97 ∧ 90 < x) ∨ (x < 65 ∧ 57 < x) ∨ x < 48 := by
      unfold letB at hl; simp at hl; omega
    have hc : x.toNat.toUInt8 = c := by rw [hx, Int.toNat_natCast]; exact UInt8.ofNat_toNat
    obtain ⟨y, hy⟩ : ∃ y, y = Lib.indexByte marks c := ⟨_, rfl⟩
    have HI : Hid (decide (0 ≤ y) = symB c) := by unfold Hid; rw [HS.out, hy]; exact index_marks c
    have HC : Hid (∀ e : Ending, e = .returned (.int .i64 (Lib.indexByte marks x.toNat.toUInt8)) → e = .returned (.int .i64 y)) := fun e he => by rw [he, hc, hy]
    clear hl hx hc hy HS
    (
      rcases hr with h1 | ⟨h1, h2⟩ | ⟨h1, h2⟩ | h1
      · have g1 : 97 ≤ x := by omega
        have g2 : ¬ x ≤ 122 := by omega
        have g3 : 65 ≤ x := by omega
        have g4 : ¬ x ≤ 90 := by omega
        have g5 : 48 ≤ x := by omega
        have g6 : ¬ x ≤ 57 := by omega
        go_enter Tryz.func82, Tryz.ntmps82
        go_wp2_with fail
        refine (Tryz.strings_IndexByte _ x _).mono ?_
        rintro e w' ⟨he, rfl⟩
        obtain rfl := HC.out e he
        go_wp2
        go_ret
        exact ⟨by rw [← HI.out]; rfl, rfl⟩
      · have g1 : ¬ 97 ≤ x := by omega
        have g3 : 65 ≤ x := by omega
        have g4 : ¬ x ≤ 90 := by omega
        have g5 : 48 ≤ x := by omega
        have g6 : ¬ x ≤ 57 := by omega
        go_enter Tryz.func82, Tryz.ntmps82
        go_wp2_with fail
        refine (Tryz.strings_IndexByte _ x _).mono ?_
        rintro e w' ⟨he, rfl⟩
        obtain rfl := HC.out e he
        go_wp2
        go_ret
        exact ⟨by rw [← HI.out]; rfl, rfl⟩
      · have g1 : ¬ 97 ≤ x := by omega
        have g3 : ¬ 65 ≤ x := by omega
        have g5 : 48 ≤ x := by omega
        have g6 : ¬ x ≤ 57 := by omega
        go_enter Tryz.func82, Tryz.ntmps82
        go_wp2_with fail
        refine (Tryz.strings_IndexByte _ x _).mono ?_
        rintro e w' ⟨he, rfl⟩
        obtain rfl := HC.out e he
        go_wp2
        go_ret
        exact ⟨by rw [← HI.out]; rfl, rfl⟩
      · have g1 : ¬ 97 ≤ x := by omega
        have g3 : ¬ 65 ≤ x := by omega
        have g5 : ¬ 48 ≤ x := by omega
        go_enter Tryz.func82, Tryz.ntmps82
        go_wp2_with fail
        refine (Tryz.strings_IndexByte _ x _).mono ?_
        rintro e w' ⟨he, rfl⟩
        obtain rfl := HC.out e he
        go_wp2
        go_ret
        exact ⟨by rw [← HI.out]; rfl, rfl⟩)

theorem marks_get (k : Nat) (h : k < 18) (h' : k < (⟨#[33, 36, 37, 38, 42, 47, 58, 60, 61, 62, 63, 94, 95, 126, 43, 45, 46, 64]⟩ : ByteArray).size) : (⟨#[33, 36, 37, 38, 42, 47, 58, 60, 61, 62, 63, 94, 95, 126, 43, 45, 46, 64]⟩ : ByteArray)[k] = marks[k]'h := rfl

set_option maxHeartbeats 1000000 in
set_option maxRecDepth 100000 in
theorem l3SymbolByte_any (c : UInt8) (x : Int) (w : World) (hx : x = (c.toNat : Int)) :
    Calls Tryz.prog 40 #[.int .u8 x] w fun e w' => e = .returned (.bool (symB c)) ∧ w' = w := by
  have HX := hideT' hx
  have hlt : x ≤ 255 := by have := c.toNat_lt; omega
  have h0 : 0 ≤ x := by omega
  cases hl : letB c.toNat with
  | true =>
    have HS := hideT' (sym_yes hl)
    have hr : (97 ≤ x ∧ x ≤ 122) ∨ (65 ≤ x ∧ x ≤ 90) ∨ (48 ≤ x ∧ x ≤ 57) := by
      unfold letB at hl; simp at hl; omega
    clear hl hx
    rcases hr with ⟨h1, h2⟩ | ⟨h1, h2⟩ | ⟨h1, h2⟩
    · go_enter Tryz.func40, Tryz.ntmps40
      go_wp2
      go_ret
      exact ⟨by rw [HS.out]; rfl, rfl⟩
    · have h3 : ¬ 97 ≤ x := by omega
      go_enter Tryz.func40, Tryz.ntmps40
      go_wp2
      go_ret
      exact ⟨by rw [HS.out]; rfl, rfl⟩
    · have h3 : ¬ 97 ≤ x := by omega
      have h4 : ¬ 65 ≤ x := by omega
      go_enter Tryz.func40, Tryz.ntmps40
      go_wp2
      go_ret
      exact ⟨by rw [HS.out]; rfl, rfl⟩
  | false =>
    have HS := hideT' (sym_no hl)
    have hr : (122 < x) ∨ (x < 97 ∧ 90 < x) ∨ (x < 65 ∧ 57 < x) ∨ x < 48 := by
      unfold letB at hl; simp at hl; omega
    clear hl hx
    go_enter Tryz.func40, Tryz.ntmps40
    go_upto_region 1 with fail
    go_cut [25] (fun x wx => x = .bool false ∧ wx = w)
    case first =>
      rcases hr with h1 | ⟨h1, h2⟩ | ⟨h1, h2⟩ | h1
      · have g1 : 97 ≤ x := by omega
        have g2 : ¬ x ≤ 122 := by omega
        have g3 : 65 ≤ x := by omega
        have g4 : ¬ x ≤ 90 := by omega
        have g5 : 48 ≤ x := by omega
        have g6 : ¬ x ≤ 57 := by omega
        go_wp2
        go_meet
        case rel => exact ⟨rfl, rfl⟩
      · have g1 : ¬ 97 ≤ x := by omega
        have g3 : 65 ≤ x := by omega
        have g4 : ¬ x ≤ 90 := by omega
        have g5 : 48 ≤ x := by omega
        have g6 : ¬ x ≤ 57 := by omega
        go_wp2
        go_meet
        case rel => exact ⟨rfl, rfl⟩
      · have g1 : ¬ 97 ≤ x := by omega
        have g3 : ¬ 65 ≤ x := by omega
        have g5 : 48 ≤ x := by omega
        have g6 : ¬ x ≤ 57 := by omega
        go_wp2
        go_meet
        case rel => exact ⟨rfl, rfl⟩
      · have g1 : ¬ 97 ≤ x := by omega
        have g3 : ¬ 65 ≤ x := by omega
        have g5 : ¬ 48 ≤ x := by omega
        go_wp2
        go_meet
        case rel => exact ⟨rfl, rfl⟩
    case rest =>
      obtain ⟨rfl, rfl⟩ := hcut
      clear hr
      go_wp2_with fail
      go_loopg [3] 18 (fun g i wr => ∃ k : Nat, g = 18 - k ∧ k ≤ 18 ∧ i = .int .i64 (k : Int) ∧ Hid (∀ j, j < k → marks[j]? ≠ some c) ∧ wr = wc)
      case atStart => exact ⟨0, rfl, by omega, rfl, fun j hj => by omega, rfl⟩
      case round =>
        obtain ⟨k, hg, hk, rfl, HK, rfl⟩ := hrel
        by_cases hk18 : (k : Int) < 18
        · have hk' : k < 18 := by omega
          have hsz : k < (⟨#[33, 36, 37, 38, 42, 47, 58, 60, 61, 62, 63, 94, 95, 126, 43, 45, 46, 64]⟩ : ByteArray).size := hk'
          by_cases hc : marks[k]'hk' = c
          · have hb : ((((⟨#[33, 36, 37, 38, 42, 47, 58, 60, 61, 62, 63, 94, 95, 126, 43, 45, 46, 64]⟩ : ByteArray)[k]'hsz).toNat : Int) == x) = true := by rw [marks_get k hk' hsz, hc, HX.out]; exact beq_self_eq_true _
            have HY : Hid (symB c = true) := by
              unfold Hid
              rw [HS.out, List.contains_iff_mem, ← hc]
              exact List.getElem_mem _
            clear hc
            go_wp2
            go_ret
            exact ⟨by rw [HY.out]; rfl, rfl⟩
          · have hb : ((((⟨#[33, 36, 37, 38, 42, 47, 58, 60, 61, 62, 63, 94, 95, 126, 43, 45, 46, 64]⟩ : ByteArray)[k]'hsz).toNat : Int) == x) = false := by
              rw [marks_get k hk' hsz, beq_eq_false_iff_ne, HX.out]
              intro e
              exact hc (UInt8.toNat_inj.1 (by omega))
            have HK2 : Hid (∀ j, j < k + 1 → marks[j]? ≠ some c) := by
              intro j hj
              by_cases e : j = k
              · subst e; rw [List.getElem?_eq_getElem hk']; intro h; exact hc (by injection h)
              · exact HK.out j (by omega)
            clear hc
            go_wp2
            go_roundg (18 - (k + 1))
            case measure => omega
            case rel => exact ⟨k + 1, rfl, by omega, by go_num, HK2, rfl⟩
        · have HN : Hid (symB c = false) := by
            unfold Hid
            rw [HS.out, Bool.eq_false_iff]
            intro hc
            rw [List.contains_iff_mem] at hc
            obtain ⟨i, hi⟩ := List.getElem?_of_mem hc
            have h18 : i < 18 := by have := (List.getElem?_eq_some_iff.1 hi).1; simpa [marks] using this
            exact HK.out i (by omega) hi
          go_wp2
          go_ret
          exact ⟨by rw [HN.out]; rfl, rfl⟩

/-- A symbol, if it is no number. -/
def symT (l : List UInt8) : Bool := (decide (1 ≤ l.length) && decide (l.length ≤ 30)) && (!(l == [46]) && l.all symB)
/-- Is it a number as ReadNum reads it? -/
def numF (l : List UInt8) : Bool := rdOkN l && (decide (rval (rdRad l) (rdTop l) / Nat.gcd (rval (rdRad l) (rdTop l)) (rval (rdRad l) (rdBot l)) < 10 ^ 600) && decide (rval (rdRad l) (rdBot l) / Nat.gcd (rval (rdRad l) (rdTop l)) (rval (rdRad l) (rdBot l)) < 10 ^ 600))
theorem ReadAns.flag {s : ByteArray} {e : Ending} (h : ReadAns s e) : ∃ t : ByteArray, e = .returned (.tuple #[.string t, .bool (numF s.data.toList)]) := by
  rcases h with ⟨g1, t, rfl, _, _⟩ | ⟨g1, h⟩
  · exact ⟨t, by unfold numF; rw [g1, Bool.true_and]⟩
  · exact ⟨⟨#[]⟩, by unfold numF; rw [g1, Bool.false_and]; exact h⟩
def symOk (l : List UInt8) : Bool := symT l && !numF l

theorem sym_bad {s : ByteArray} (k : Nat) (h : k < s.size) (hb : symB s[k] = false) : s.data.toList.all symB = false := by
  rw [List.all_eq_false]
  exact ⟨s.data.toList[k]'(by simpa using h), List.getElem_mem _, by show ¬ symB s[k] = true; rw [hb]; decide⟩
theorem sym_all {s : ByteArray} (h : ∀ (k : Nat) (hk : k < s.size), symB (s[k]'hk) = true) : s.data.toList.all symB = true := by
  rw [List.all_eq_true]
  intro c hc
  obtain ⟨i, hi, rfl⟩ := List.getElem_of_mem hc
  exact h i (by simpa using hi)

set_option maxHeartbeats 1000000 in
set_option maxRecDepth 100000 in
theorem symbolOrNum_any (s : ByteArray) (w : World) (hs : s.size ≤ maxLen) :
    Calls Tryz.prog 61 #[.string s] w fun e w' => e = .returned (.bool (symT s.data.toList)) ∧ w' = w := by
  unfold maxLen at hs
  have hlen : s.data.toList.length = s.size := by simp
  by_cases h1 : (s.size : Int) < 1
  · have HN : Hid (symT s.data.toList = false) := by unfold Hid symT; rw [hlen, decide_eq_false (show ¬ 1 ≤ s.size by omega)]; rfl
    clear hlen
    go_enter Tryz.func61, Tryz.ntmps61
    go_wp2
    go_ret
    exact ⟨by rw [HN.out]; rfl, rfl⟩
  · by_cases h2 : (30 : Int) < (s.size : Int)
    · have HN : Hid (symT s.data.toList = false) := by unfold Hid symT; rw [hlen, decide_eq_false (show ¬ s.size ≤ 30 by omega), Bool.and_false]; rfl
      clear hlen
      go_enter Tryz.func61, Tryz.ntmps61
      go_wp2
      go_ret
      exact ⟨by rw [HN.out]; rfl, rfl⟩
    · by_cases h3 : s.data.toList = [46]
      · have hd := str_eq h3
        have HN : Hid (symT s.data.toList = false) := by unfold Hid; rw [h3]; rfl
        clear hlen h3
        go_enter Tryz.func61, Tryz.ntmps61
        go_wp2
        go_ret
        exact ⟨by rw [HN.out]; rfl, rfl⟩
      · have hd := str_ne h3
        have HA : Hid (symT s.data.toList = s.data.toList.all symB) := by
          unfold Hid symT
          rw [hlen, decide_eq_true (show 1 ≤ s.size by omega), decide_eq_true (show s.size ≤ 30 by omega), beq_eq_false_iff_ne.2 h3]; simp
        clear hlen h3
        go_enter Tryz.func61, Tryz.ntmps61
        go_wp2_with fail
        go_loopg [18] s.size (fun g i wr => ∃ k : Nat, g = s.size - k ∧ k ≤ s.size ∧ i = .int .i64 (k : Int) ∧ Hid (∀ (j : Nat) (hj : j < s.size), j < k → symB (s[j]'hj) = true) ∧ wr = w)
        case atStart => exact ⟨0, rfl, by omega, rfl, fun j _ hj => by omega, rfl⟩
        case round =>
          obtain ⟨k, hg, hk, rfl, HK, rfl⟩ := hrel
          by_cases hk1 : (k : Int) < (s.size : Int)
          · have hk' : k < s.size := by omega
            go_wp2_with fail
            refine (inSymbol_any (s[k]'hk') _ _ rfl).mono ?_
            rintro e w' ⟨rfl, rfl⟩
            cases hb : symB (s[k]'hk') with
            | true =>
              have HK2 : Hid (∀ (j : Nat) (hj : j < s.size), j < k + 1 → symB (s[j]'hj) = true) := by
                intro j hj hj2
                by_cases e : j = k
                · subst e; exact hb
                · exact HK.out j hj (by omega)
              clear hb
              go_wp2
              go_roundg (s.size - (k + 1))
              case measure => omega
              case rel => exact ⟨k + 1, rfl, by omega, by go_num, HK2, rfl⟩
            | false =>
              have HN : Hid (symT s.data.toList = false) := by unfold Hid; rw [HA.out]; exact sym_bad k hk' hb
              clear hb
              go_wp2
              go_ret
              exact ⟨by rw [HN.out]; rfl, rfl⟩
          · have HN : Hid (symT s.data.toList = true) := by unfold Hid; rw [HA.out]; exact sym_all (fun j hj => HK.out j hj (by omega))
            go_wp2
            go_ret
            exact ⟨by rw [HN.out]; rfl, rfl⟩

set_option maxHeartbeats 1000000 in
set_option maxRecDepth 100000 in
theorem l3Symbol_any (s : ByteArray) (w : World) (hs : s.size ≤ maxLen) :
    Calls Tryz.prog 23 #[.string s] w fun e w' => e = .returned (.bool (symOk s.data.toList)) ∧ Below w.heap.size w w' := by
  have hs' := hs
  unfold maxLen at hs
  go_enter Tryz.func23, Tryz.ntmps23
  go_wp2_with fail
  go_loopg [3] s.size (fun g i wr => ∃ k : Nat, g = s.size - k ∧ k ≤ s.size ∧ i = .int .i64 (k : Int) ∧ Hid (∀ (j : Nat) (hj : j < s.size), j < k → symB (s[j]'hj) = true) ∧ wr = w)
  case atStart => exact ⟨0, rfl, by omega, rfl, fun j _ hj => by omega, rfl⟩
  case round =>
    obtain ⟨k, hg, hk, rfl, HK, rfl⟩ := hrel
    by_cases hk1 : (k : Int) < (s.size : Int)
    · have hk' : k < s.size := by omega
      go_wp2_with fail
      refine (l3SymbolByte_any (s[k]'hk') _ _ rfl).mono ?_
      rintro e w' ⟨rfl, rfl⟩
      cases hb : symB (s[k]'hk') with
      | true =>
        have HK2 : Hid (∀ (j : Nat) (hj : j < s.size), j < k + 1 → symB (s[j]'hj) = true) := by
          intro j hj hj2
          by_cases e : j = k
          · subst e; exact hb
          · exact HK.out j hj (by omega)
        clear hb
        go_wp2
        go_roundg (s.size - (k + 1))
        case measure => omega
        case rel => exact ⟨k + 1, rfl, by omega, by go_num, HK2, rfl⟩
      | false =>
        have HN : Hid (symOk s.data.toList = false) := by
          unfold Hid symOk symT; rw [sym_bad k hk' hb]; simp
        clear hb
        go_wp2
        go_ret
        exact ⟨by rw [HN.out]; rfl, Below.refl _ _⟩
    · have HA := hideT' (sym_all (fun j hj => HK.out j hj (by omega)))
      go_wp2_with fail
      refine (l2Read_any s _ hs').mono ?_
      rintro e w2 ⟨hA, hW⟩
      obtain ⟨t, rfl⟩ := hA.flag
      obtain ⟨o, ho⟩ : ∃ o, o = numF s.data.toList := ⟨_, rfl⟩
      rw [← ho]
      have HN : Hid (symOk s.data.toList = ((decide (1 ≤ (s.size : Int)) && decide ((s.size : Int) ≤ 30)) && !(s.data.toList == [46]) && !o)) := by
        unfold Hid symOk symT
        have hlen : s.data.toList.length = s.size := by simp
        rw [HA.out, ← ho, hlen, Bool.and_true]
        have e1 : decide (1 ≤ s.size) = decide (1 ≤ (s.size : Int)) := decide_eq_decide.2 (by omega)
        have e2 : decide (s.size ≤ 30) = decide ((s.size : Int) ≤ 30) := decide_eq_decide.2 (by omega)
        rw [e1, e2]
      clear hA ho
      go_wp2_with fail
      refine (l1In_any (s.size : Int) 1 30 _).mono ?_
      rintro e w3 ⟨rfl, rfl⟩
      cases h1 : (decide (1 ≤ (s.size : Int)) && decide ((s.size : Int) ≤ 30)) with
      | false =>
        rw [h1] at HN
        clear h1
        go_wp2
        go_ret
        exact ⟨by rw [HN.out]; rfl, hW⟩
      | true =>
        rw [h1] at HN
        clear h1
        cases h3 : (s.data.toList == [46]) with
        | true =>
          rw [h3] at HN
          have hd : (s.toList == [46]) = true := by rw [ByteArray.toList_eq]; exact h3
          clear h3
          go_wp2
          go_ret
          exact ⟨by rw [HN.out]; rfl, hW⟩
        | false =>
          rw [h3] at HN
          have hd : (s.toList == [46]) = false := by rw [ByteArray.toList_eq]; exact h3
          clear h3
          go_wp2
          go_ret
          exact ⟨by rw [HN.out]; rfl, hW⟩

end Go.Proofs.YtnmofolhfbldjaaGreatDoor

/-
  Data as a list of nodes: what good data are. Plain facts.
-/
namespace Go.Proofs.YtnmofolhfbldjaaGreatDoor
set_option linter.unusedVariables false

/-- A node: its kind, its text, the list that it is in. -/
structure Dm where
  k : Int
  t : ByteArray
  u : Int
instance : Inhabited Dm := ⟨⟨0, ⟨#[]⟩, 0⟩⟩
def dk (l : List Dm) (i : Nat) : Int := (l.getD i default).k
def dt (l : List Dm) (i : Nat) : ByteArray := (l.getD i default).t
def du (l : List Dm) (i : Nat) : Int := (l.getD i default).u

def isL (k : Int) : Bool := decide (k = 5) || decide (k = 6)
/-- Bytes of a string. -/
def strC (c : UInt8) : Bool := (decide (32 ≤ c.toNat) && decide (c.toNat ≤ 126)) || decide (c.toNat = 10)
def strOk (l : List UInt8) : Bool := decide (l.length ≤ 100) && l.all strC
def txtOk (k : Int) (t : List UInt8) : Bool :=
  if k = 1 then okN t else if k = 2 then symOk t else if k = 3 then strOk t else if k = 4 then (t == [116]) || (t == [102]) else isL k && (t == [])

/-- Is t met on the way up from the node at? (f: more than at.) -/
def inChain (l : List Dm) : Nat → Int → Int → Bool
  | 0, _, _ => false
  | f + 1, at_, t => if at_ < 0 then false else if at_ = t then true else inChain l f (du l at_.toNat) t
/-- How many lists are met on the way up from the node at? -/
def dep (l : List Dm) : Nat → Int → Nat
  | 0, _ => 0
  | f + 1, at_ => if at_ < 0 then 0 else (if isL (dk l at_.toNat) then 1 else 0) + dep l f (du l at_.toNat)
def upOk (l : List Dm) (k : Nat) : Bool := decide (du l k = -1) || (inChain l k ((k : Int) - 1) (du l k) && isL (dk l (du l k).toNat))
def deepOk (l : List Dm) (k : Nat) : Bool := decide (dep l (k + 1) (k : Int) ≤ 25)
/-- The parts of the list k among the first n nodes. -/
def prt (l : List Dm) (n k : Nat) : List Nat := (List.range n).filter (fun i => decide (k < i) && decide (du l i = (k : Int)))
def lastL (l : List Dm) (q : List Nat) : Bool := match q.getLast? with | some i => isL (dk l i) | none => false
def dotOk (l : List Dm) (k : Nat) : Bool := !(decide (dk l k = 6)) || (decide (2 ≤ (prt l l.length k).length) && !lastL l (prt l l.length k))
def nodeOk (l : List Dm) (k : Nat) : Bool := (upOk l k && (txtOk (dk l k) (dt l k).data.toList && deepOk l k)) && dotOk l k
def goodAll (l : List Dm) : Bool := decide (l.length ≤ 300) && (List.range l.length).all (nodeOk l)

/-- All nodes ahead of k lead up. -/
def Up (l : List Dm) (k : Nat) : Prop := ∀ i, i < k → -1 ≤ du l i ∧ du l i < (i : Int)

theorem Up.mono {l : List Dm} {k j : Nat} (h : Up l k) (hj : j ≤ k) : Up l j := fun i hi => h i (by omega)

theorem chain_le (l : List Dm) : ∀ (f : Nat) (k : Nat) (a t : Int), Up l k → a < (k : Int) → inChain l f a t = true → 0 ≤ t ∧ t ≤ a
  | 0, k, a, t, hU, ha, h => by simp [inChain] at h
  | f + 1, k, a, t, hU, ha, h => by
    unfold inChain at h
    by_cases h0 : a < 0
    · rw [if_pos h0] at h; cases h
    · rw [if_neg h0] at h
      by_cases h1 : a = t
      · omega
      · rw [if_neg h1] at h
        have hu := hU a.toNat (by omega)
        have := chain_le l f k _ t hU (by omega) h
        omega

theorem upOk_up {l : List Dm} {k : Nat} (hU : Up l k) (h : upOk l k = true) : -1 ≤ du l k ∧ du l k < (k : Int) := by
  unfold upOk at h
  simp only [Bool.or_eq_true, Bool.and_eq_true, decide_eq_true_eq] at h
  rcases h with h | h
  · omega
  · have := chain_le l k k _ _ hU (by omega) h.1
    omega
theorem Up.succ {l : List Dm} {k : Nat} (hU : Up l k) (h : upOk l k = true) : Up l (k + 1) := fun i hi => by
  by_cases e : i = k
  · subst e; exact upOk_up hU h
  · exact hU i (by omega)
theorem upOk_list {l : List Dm} {k : Nat} (h : upOk l k = true) (h0 : 0 ≤ du l k) : isL (dk l (du l k).toNat) = true := by
  unfold upOk at h
  simp only [Bool.or_eq_true, Bool.and_eq_true, decide_eq_true_eq] at h
  rcases h with h | h
  · omega
  · exact h.2

theorem chain_step {l : List Dm} {f : Nat} {a t : Int} (h0 : 0 ≤ a) (h1 : a ≠ t) : inChain l (f + 1) a t = inChain l f (du l a.toNat) t := by
  rw [inChain, if_neg (by omega), if_neg h1]
theorem chain_hit {l : List Dm} {f : Nat} {a : Int} (h0 : 0 ≤ a) : inChain l (f + 1) a a = true := by
  rw [inChain, if_neg (by omega), if_pos rfl]
theorem chain_end {l : List Dm} {f : Nat} {a t : Int} (h0 : a < 0) : inChain l f a t = false := by
  cases f with
  | zero => rfl
  | succ f => rw [inChain, if_pos h0]
theorem dep_end {l : List Dm} {f : Nat} {a : Int} (h0 : a < 0) : dep l f a = 0 := by
  cases f with
  | zero => rfl
  | succ f => rw [dep, if_pos h0]
theorem dep_step {l : List Dm} {f : Nat} {a : Int} (h0 : 0 ≤ a) : dep l (f + 1) a = (if isL (dk l a.toNat) then 1 else 0) + dep l f (du l a.toNat) := by
  rw [dep, if_neg (by omega)]

/-- The fuel does not matter. -/
theorem dep_fuel (l : List Dm) : ∀ (f g : Nat) (k : Nat) (a : Int), Up l k → a < (k : Int) → a < (f : Int) → a < (g : Int) → dep l f a = dep l g a
  | 0, g, k, a, hU, hk, hf, hg => by rw [dep_end (by omega), dep_end (by omega)]
  | f + 1, 0, k, a, hU, hk, hf, hg => by rw [dep_end (by omega), dep_end (by omega)]
  | f + 1, g + 1, k, a, hU, hk, hf, hg => by
    by_cases h0 : a < 0
    · rw [dep_end h0, dep_end h0]
    · rw [dep_step (by omega), dep_step (by omega)]
      have hu := hU a.toNat (by omega)
      rw [dep_fuel l f g k _ hU (by omega) (by omega) (by omega)]

/-- How many lists are around the node k. -/
def arnd (l : List Dm) (k : Nat) : Nat := dep l k (du l k)
theorem deep_arnd {l : List Dm} {k : Nat} : dep l (k + 1) (k : Int) = (if isL (dk l k) then 1 else 0) + arnd l k := by
  rw [dep_step (by omega), Int.toNat_natCast]; rfl
theorem arnd_none {l : List Dm} {k : Nat} (h : du l k < 0) : arnd l k = 0 := dep_end h
theorem arnd_some {l : List Dm} {k j : Nat} (hU : Up l k) (hj : du l k = (j : Int)) (hjk : j < k) (hl : isL (dk l j) = true) : arnd l k = arnd l j + 1 := by
  unfold arnd
  obtain ⟨m, rfl⟩ : ∃ m, k = m + 1 := ⟨k - 1, by omega⟩
  rw [hj, dep_step (by omega), Int.toNat_natCast, if_pos hl]
  have hu := hU j hjk
  rw [dep_fuel l m j (m + 1) (du l j) hU (by omega) (by omega) (by omega)]
  omega

theorem node_bad {l : List Dm} {k : Nat} (hk : k < l.length) (h : nodeOk l k = false) : goodAll l = false := by
  unfold goodAll
  have : (List.range l.length).all (nodeOk l) = false := by
    rw [List.all_eq_false]
    exact ⟨k, List.mem_range.2 hk, by rw [h]; decide⟩
  rw [this, Bool.and_false]
theorem node_all {l : List Dm} (hn : l.length ≤ 300) (h : ∀ k, k < l.length → nodeOk l k = true) : goodAll l = true := by
  unfold goodAll
  rw [decide_eq_true hn, Bool.true_and, List.all_eq_true]
  intro k hk
  exact h k (List.mem_range.1 hk)
theorem node_upBad {l : List Dm} {k : Nat} (h : upOk l k = false) : nodeOk l k = false := by unfold nodeOk; rw [h]; rfl
theorem node_txtBad {l : List Dm} {k : Nat} (h : txtOk (dk l k) (dt l k).data.toList = false) : nodeOk l k = false := by unfold nodeOk; rw [h]; simp
theorem node_deepBad {l : List Dm} {k : Nat} (h : deepOk l k = false) : nodeOk l k = false := by unfold nodeOk; rw [h]; simp
theorem node_dotBad {l : List Dm} {k : Nat} (h : dotOk l k = false) : nodeOk l k = false := by unfold nodeOk; rw [h]; simp
theorem node_ok {l : List Dm} {k : Nat} (h1 : upOk l k = true) (h2 : txtOk (dk l k) (dt l k).data.toList = true) (h3 : deepOk l k = true) (h4 : dotOk l k = true) : nodeOk l k = true := by
  unfold nodeOk; rw [h1, h2, h3, h4]; rfl
theorem node_up {l : List Dm} {k : Nat} (h : nodeOk l k = true) : upOk l k = true := by
  unfold nodeOk at h; simp only [Bool.and_eq_true] at h; exact h.1.1

/-- One node more: it is a part of the list that it is in. -/
theorem prt_snoc (l : List Dm) (n k : Nat) : prt l (n + 1) k = prt l n k ++ (if k < n ∧ du l n = (k : Int) then [n] else []) := by
  unfold prt
  rw [List.range_succ, List.filter_append]
  congr 1
  by_cases h : k < n ∧ du l n = (k : Int)
  · rw [if_pos h]; simp [h.1, h.2]
  · rw [if_neg h]
    have : ¬ (k < n ∧ du l n = (k : Int)) := h
    simp only [List.filter_cons, List.filter_nil]
    rw [if_neg (by simpa using this)]
theorem lastL_snoc (l : List Dm) (q : List Nat) (n : Nat) : lastL l (q ++ [n]) = isL (dk l n) := by
  unfold lastL; simp
theorem prt_mem {l : List Dm} {n k i : Nat} (h : i ∈ prt l n k) : i < n := by
  unfold prt at h
  exact List.mem_range.1 (List.mem_filter.1 h).1
theorem prt_len (l : List Dm) (n k : Nat) : (prt l n k).length ≤ n := by
  unfold prt
  have := List.length_filter_le (fun i => decide (k < i) && decide (du l i = (k : Int))) (List.range n)
  simpa using this
theorem prt_low (l : List Dm) (k : Nat) : ∀ n, n ≤ k + 1 → prt l n k = []
  | 0, _ => rfl
  | n + 1, h => by rw [prt_snoc, prt_low l k n (by omega), if_neg (by omega)]; rfl
end Go.Proofs.YtnmofolhfbldjaaGreatDoor

/-
  Good data as trees, told as texts: plain facts.
-/
namespace Go.Proofs.YtnmofolhfbldjaaGreatDoor
set_option linter.unusedVariables false

/-- A string's bytes as they are told. -/
def escB (c : UInt8) : List UInt8 := if c = 34 ∨ c = 92 then [92, c] else if c = 10 then [92, 110] else [c]
def quo (t : List UInt8) : List UInt8 := 34 :: (t.flatMap escB ++ [34])
/-- The parts of a list up (-1: of all), among the first n nodes. -/
def kid (l : List Dm) (n : Nat) (u : Int) : List Nat := (List.range n).filter (fun i => decide (u < (i : Int)) && decide (du l i = u))
/-- Parts told one behind the other; the last one of m behind a dot, where it must be. -/
def jn (g : Nat → List UInt8) (dot : Bool) (m : Nat) (q : List Nat) : Nat → List UInt8
  | 0 => []
  | i + 1 => jn g dot m q i ++ ((if 0 < i then [32] else []) ++ ((if dot && decide (i + 1 = m) then [46, 32] else []) ++ g (q.getD i 0)))
def dotK (l : List Dm) (u : Int) : Bool := decide (0 ≤ u) && decide (dk l u.toNat = 6)
def jnK (l : List Dm) (g : Nat → List UInt8) (n : Nat) (u : Int) : List UInt8 := jn g (dotK l u) (kid l l.length u).length (kid l n u) (kid l n u).length
/-- A node's text. -/
def tx (l : List Dm) : Nat → Nat → List UInt8
  | 0, _ => []
  | f + 1, k => if dk l k = 3 then quo (dt l k).data.toList else if dk l k = 4 then 35 :: (dt l k).data.toList else if dk l k = 1 ∨ dk l k = 2 then (dt l k).data.toList else 40 :: (jnK l (tx l f) l.length (k : Int) ++ [41])
def TX (l : List Dm) (k : Nat) : List UInt8 := tx l (l.length - k) k

theorem jn_congr {g g' : Nat → List UInt8} {dot : Bool} {m : Nat} {q : List Nat} : ∀ i, i ≤ q.length → (∀ x ∈ q, g x = g' x) → jn g dot m q i = jn g' dot m q i
  | 0, _, _ => rfl
  | i + 1, hi, h => by
    rw [jn, jn, jn_congr i (by omega) h, h (q.getD i 0) (by simp only [List.getD, List.getElem?_eq_getElem (show i < q.length by omega), Option.getD_some]; exact List.getElem_mem _)]
theorem jn_snoc {g : Nat → List UInt8} {dot : Bool} {m : Nat} {q : List Nat} {p : Nat} : ∀ i, i ≤ q.length → jn g dot m (q ++ [p]) i = jn g dot m q i
  | 0, _ => rfl
  | i + 1, hi => by
    rw [jn, jn, jn_snoc i (by omega)]
    congr 4
    simp only [List.getD, List.getElem?_append_left (show i < q.length by omega)]
theorem kid_mem {l : List Dm} {n : Nat} {u : Int} {i : Nat} (h : i ∈ kid l n u) : i < n ∧ u < (i : Int) ∧ du l i = u := by
  unfold kid at h
  obtain ⟨h1, h2⟩ := List.mem_filter.1 h
  simp at h2
  exact ⟨List.mem_range.1 h1, h2.1, h2.2⟩
theorem kid_prt (l : List Dm) (n k : Nat) : kid l n (k : Int) = prt l n k := by
  unfold kid prt
  congr 1
  funext i
  congr 1
  exact decide_eq_decide.2 (by omega)
theorem kid_snoc (l : List Dm) (n : Nat) (u : Int) : kid l (n + 1) u = kid l n u ++ (if u < (n : Int) ∧ du l n = u then [n] else []) := by
  unfold kid
  rw [List.range_succ, List.filter_append]
  congr 1
  by_cases h : u < (n : Int) ∧ du l n = u
  · rw [if_pos h]; simp [h.1, h.2]
  · rw [if_neg h]
    simp only [List.filter_cons, List.filter_nil]
    rw [if_neg (by simpa using h)]
/-- Nodes that are no parts change nothing. -/
theorem kid_skip (l : List Dm) (u : Int) (a : Nat) : ∀ e, a ≤ e → (∀ j, a ≤ j → j < e → ¬ (u < (j : Int) ∧ du l j = u)) → kid l e u = kid l a u
  | 0, h, _ => by rw [show a = 0 by omega]
  | e + 1, h, hj => by
    by_cases he : a = e + 1
    · rw [he]
    · rw [kid_snoc, kid_skip l u a e (by omega) (fun j h1 h2 => hj j h1 (by omega)), if_neg (hj e (by omega) (by omega)), List.append_nil]

/-- The fuel does not matter. -/
theorem tx_fuel (l : List Dm) : ∀ (f f' k : Nat), l.length - k ≤ f → l.length - k ≤ f' → k < l.length → tx l f k = tx l f' k
  | 0, f', k, h, h', hk => by omega
  | f + 1, 0, k, h, h', hk => by omega
  | f + 1, f' + 1, k, h, h', hk => by
    rw [tx, tx]
    have : jnK l (tx l f) l.length (k : Int) = jnK l (tx l f') l.length (k : Int) := by
      unfold jnK
      refine jn_congr _ (Nat.le_refl _) (fun x hx => ?_)
      have hm := kid_mem hx
      exact tx_fuel l f f' x (by omega) (by omega) hm.1
    rw [this]
theorem TX_eq {l : List Dm} {k : Nat} (hk : k < l.length) : TX l k = if dk l k = 3 then quo (dt l k).data.toList else if dk l k = 4 then 35 :: (dt l k).data.toList else if dk l k = 1 ∨ dk l k = 2 then (dt l k).data.toList else 40 :: (jnK l (TX l) l.length (k : Int) ++ [41]) := by
  unfold TX
  obtain ⟨f, hf⟩ : ∃ f, l.length - k = f + 1 := ⟨l.length - k - 1, by omega⟩
  rw [hf, tx]
  have : jnK l (tx l f) l.length (k : Int) = jnK l (fun x => tx l (l.length - x) x) l.length (k : Int) := by
    unfold jnK
    refine jn_congr _ (Nat.le_refl _) (fun x hx => ?_)
    have hm := kid_mem hx
    exact tx_fuel l f (l.length - x) x (by omega) (Nat.le_refl _) hm.1
  rw [this]
/-- One part more. -/
theorem jnK_snoc {l : List Dm} {a e : Nat} {u : Int} (g : Nat → List UInt8) (h : kid l e u = kid l a u ++ [a]) :
    jnK l g e u = jnK l g a u ++ ((if 0 < (kid l a u).length then [32] else []) ++ ((if dotK l u && decide ((kid l a u).length + 1 = (kid l l.length u).length) then [46, 32] else []) ++ g a)) := by
  unfold jnK
  rw [h, List.length_append, List.length_singleton, jn, jn_snoc _ (Nat.le_refl _)]
  congr 3
  simp [List.getD]

/-- All nodes are as they should be. -/
def AllUp (l : List Dm) : Prop := ∀ k, k < l.length → upOk l k = true
theorem AllUp.up {l : List Dm} (h : AllUp l) : ∀ k, k ≤ l.length → Up l k
  | 0, _ => fun i hi => by omega
  | k + 1, hk => (h.up k (by omega)).succ (h k (by omega))
/-- The first node behind all that is in u. -/
structure IsNx (l : List Dm) (u : Int) (e : Nat) : Prop where
  lo : u < (e : Int)
  hi : e ≤ l.length
  mid : ∀ j : Nat, u < (j : Int) → j < e → u ≤ du l j
  out : e < l.length → du l e < u

/-- What is met on the way up from within c, and is ahead of c, is met from c's own list on. -/
theorem chain_sub {l : List Dm} {c : Nat} {t : Int} (hA : AllUp l) : ∀ (m f : Nat), c ≤ m → m < l.length → (∀ j, c < j → j ≤ m → (c : Int) ≤ du l j) → inChain l f (m : Int) t = true → t < (c : Int) → t ≤ du l c
  | m, 0, h1, h2, h3, h4, h5 => by simp [inChain] at h4
  | m, f + 1, h1, h2, h3, h4, h5 => by
    rw [chain_step (by omega) (by omega), Int.toNat_natCast] at h4
    have hU := hA.up l.length (Nat.le_refl _)
    by_cases e : m = c
    · subst e
      exact (chain_le l f l.length _ t hU (by have := hU m h2; omega) h4).2
    · have hc := h3 m (by omega) (Nat.le_refl _)
      have hu := hU m h2
      have : inChain l f (((du l m).toNat : Nat) : Int) t = true := by rw [show (((du l m).toNat : Nat) : Int) = du l m by omega]; exact h4
      exact chain_sub hA (du l m).toNat f (by omega) (by omega) (fun j hj1 hj2 => h3 j hj1 (by omega)) this h5
/-- What is met on the way up from a part. -/
theorem chain_in {l : List Dm} {j : Nat} (hA : AllUp l) (hj : j < l.length) : du l j = -1 ∨ inChain l j ((j : Int) - 1) (du l j) = true := by
  have h := hA j hj
  unfold upOk at h
  simp only [Bool.or_eq_true, Bool.and_eq_true, decide_eq_true_eq] at h
  rcases h with h | h
  · exact .inl h
  · exact .inr h.1
/-- The node behind all that is in c leads to c's list or further up. -/
theorem nx_le {l : List Dm} {c e : Nat} (hA : AllUp l) (h : IsNx l (c : Int) e) (he : e < l.length) : du l e ≤ du l c := by
  have hU := hA.up l.length (Nat.le_refl _)
  have hlo := h.lo
  have hcl : c < l.length := by omega
  rcases chain_in hA he with h1 | h1
  · have := hU c hcl; omega
  · obtain ⟨m, rfl⟩ : ∃ m, e = m + 1 := ⟨e - 1, by omega⟩
    have h2 : inChain l (m + 1) (m : Int) (du l (m + 1)) = true := by rw [show ((m : Nat) : Int) = ((m + 1 : Nat) : Int) - 1 by omega]; exact h1
    exact chain_sub hA m (m + 1) (by omega) (by omega) (fun j hj1 hj2 => h.mid j (by omega) (by omega)) h2 (h.out he)

/-- Behind all that is in u nothing is in u. -/
theorem no_later {l : List Dm} {u : Int} {e : Nat} (hA : AllUp l) (h : IsNx l u e) (hu : 0 ≤ u) : ∀ j, e ≤ j → j < l.length → (∀ f, inChain l f (j : Int) u = false) ∧ du l j ≠ u
  | 0, h1, h2 => by have := h.lo; omega
  | j + 1, h1, h2 => by
    have hU := hA.up l.length (Nat.le_refl _)
    have hne : du l (j + 1) ≠ u := by
      by_cases e1 : e = j + 1
      · subst e1; have := h.out h2; omega
      · obtain ⟨ih, _⟩ := no_later hA h hu j (by omega) (by omega)
        rcases chain_in hA h2 with h3 | h3
        · omega
        · intro e2
          rw [e2] at h3
          have := ih (j + 1)
          rw [show ((j : Nat) : Int) = ((j + 1 : Nat) : Int) - 1 by omega] at this
          rw [this] at h3; cases h3
    refine ⟨fun f => ?_, hne⟩
    cases f with
    | zero => rfl
    | succ f =>
      have hlo := h.lo
      rw [chain_step (by omega) (by omega), Int.toNat_natCast]
      have hd := hU (j + 1) h2
      by_cases e1 : e = j + 1
      · subst e1
        have ho := h.out h2
        cases hc : inChain l f (du l (j + 1)) u with
        | false => rfl
        | true => have := chain_le l f l.length _ u hU (by omega) hc; omega
      · obtain ⟨ih, _⟩ := no_later hA h hu j (by omega) (by omega)
        rcases chain_in hA h2 with h3 | h3
        · rw [h3]; exact chain_end (by omega)
        · cases hc : inChain l f (du l (j + 1)) u with
          | false => rfl
          | true =>
            have h4 := chain_trans l (j + 1) f _ _ u h3 hc
            obtain ⟨f', h4⟩ := h4
            have := ih f'
            rw [show ((j : Nat) : Int) = ((j + 1 : Nat) : Int) - 1 by omega] at this
            rw [this] at h4; cases h4
where
  chain_trans (l : List Dm) : ∀ (f g : Nat) (a b t : Int), inChain l f a b = true → inChain l g b t = true → ∃ h, inChain l h a t = true
    | 0, g, a, b, t, h, _ => by simp [inChain] at h
    | f + 1, g, a, b, t, h, h' => by
      by_cases ha : a < 0
      · rw [inChain, if_pos ha] at h; cases h
      · by_cases hab : a = b
        · subst hab; exact ⟨g, h'⟩
        · rw [chain_step (by omega) hab] at h
          obtain ⟨k, hk⟩ := chain_trans l f g _ b t h h'
          by_cases hat : a = t
          · exact ⟨1, by rw [hat]; exact chain_hit (by omega)⟩
          · exact ⟨k + 1, by rw [chain_step (by omega) hat]; exact hk⟩

/-- Where a part of u, or what is behind all of them, begins. -/
structure AtPart (l : List Dm) (u : Int) (a : Nat) : Prop where
  lo : u < (a : Int)
  hi : a ≤ l.length
  mid : ∀ j : Nat, u < (j : Int) → j < a → u ≤ du l j
  out : a < l.length → du l a ≤ u
  some : 0 < (kid l a u).length ↔ u + 1 < (a : Int)

theorem kid_low (l : List Dm) (u : Int) (a : Nat) (h : (a : Int) ≤ u + 1) : kid l a u = [] := by
  rw [List.eq_nil_iff_forall_not_mem]
  intro i hi
  have := kid_mem hi
  omega
theorem AtPart.start {l : List Dm} {u : Int} {a : Nat} (hA : AllUp l) (ha : (a : Int) = u + 1) (hl : a ≤ l.length) : AtPart l u a := by
  refine ⟨by omega, hl, fun j h1 h2 => by omega, fun h => ?_, ?_⟩
  · have := hA.up l.length (Nat.le_refl _) a h; omega
  · rw [kid_low l u a (by omega)]; simp; omega
theorem AtPart.step {l : List Dm} {u : Int} {a e : Nat} (hA : AllUp l) (h : AtPart l u a) (ha : a < l.length) (hu : du l a = u) (hn : IsNx l (a : Int) e) : AtPart l u e ∧ kid l e u = kid l a u ++ [a] := by
  have hlo := h.lo
  have hne := hn.lo
  have hk : kid l e u = kid l a u ++ [a] := by
    rw [kid_skip l u (a + 1) e (by omega) (fun j h1 h2 => by have := hn.mid j (by omega) h2; omega), kid_snoc, if_pos ⟨hlo, hu⟩]
  refine ⟨⟨by omega, hn.hi, fun j h1 h2 => ?_, fun h1 => ?_, ?_⟩, hk⟩
  · by_cases e1 : j < a
    · exact h.mid j h1 e1
    · by_cases e2 : j = a
      · subst e2; omega
      · have := hn.mid j (by omega) h2; omega
  · have := nx_le hA hn h1; omega
  · rw [hk]; simp; omega
theorem AtPart.done {l : List Dm} {u : Int} {a : Nat} (hA : AllUp l) (h : AtPart l u a) (hx : a < l.length → du l a ≠ u) : IsNx l u a ∧ kid l l.length u = kid l a u := by
  have hI : IsNx l u a := ⟨h.lo, h.hi, h.mid, fun h1 => by have := h.out h1; have := hx h1; omega⟩
  refine ⟨hI, kid_skip l u a l.length h.hi (fun j h1 h2 h3 => ?_)⟩
  have hU := hA.up l.length (Nat.le_refl _)
  by_cases hu : 0 ≤ u
  · exact (no_later hA hI hu j h1 h2).2 h3.2
  · have h4 := hI.out (by omega)
    have h5 := hU a (by omega)
    have h6 := h.lo
    have h7 := hU j h2
    omega
/-- A node that is no list has nothing in it. -/
theorem nx_leaf {l : List Dm} {a : Nat} (hA : AllUp l) (ha : a < l.length) (hl : isL (dk l a) = false) : IsNx l (a : Int) (a + 1) := by
  refine ⟨by omega, by omega, fun j h1 h2 => by omega, fun h1 => ?_⟩
  have h2 := hA.up l.length (Nat.le_refl _) (a + 1) h1
  by_cases e : du l (a + 1) = (a : Int)
  · have h3 := upOk_list (hA (a + 1) h1) (by omega)
    rw [e, Int.toNat_natCast, hl] at h3; cases h3
  · omega
/-- Whether a part stands behind the dot. -/
def behB (l : List Dm) (a : Nat) : Bool := dotK l (du l a) && (!isL (dk l a) && (decide (a + 1 = l.length) || !decide (du l (a + 1) = du l a)))
theorem beh_eq {l : List Dm} {u : Int} {a : Nat} (hA : AllUp l) (hD : ∀ k, k < l.length → dotOk l k = true) (h : AtPart l u a) (ha : a < l.length) (hu : du l a = u) : behB l a = (dotK l u && decide ((kid l a u).length + 1 = (kid l l.length u).length)) := by
  have hlo := h.lo
  have hk1 : kid l (a + 1) u = kid l a u ++ [a] := by rw [kid_snoc, if_pos ⟨hlo, hu⟩]
  unfold behB
  rw [hu]
  cases hdk : dotK l u with
  | false => rfl
  | true =>
    have hd2 : 0 ≤ u ∧ dk l u.toNat = 6 := by unfold dotK at hdk; simpa using hdk
    rw [Bool.true_and, Bool.true_and]
    cases hl : isL (dk l a) with
    | true =>
      rw [Bool.not_true, Bool.false_and]
      symm
      apply decide_eq_false
      intro hlen
      have hdo := hD u.toNat (by omega)
      unfold dotOk at hdo
      rw [decide_eq_true hd2.2, ← kid_prt, show ((u.toNat : Nat) : Int) = u by omega] at hdo
      have hpre : kid l l.length u = kid l (a + 1) u := by
        have hp : ∃ t, kid l l.length u = kid l (a + 1) u ++ t := by
          unfold kid
          refine ⟨((List.range (l.length - (a + 1))).map ((a + 1) + ·)).filter (fun i => decide (u < (i : Int)) && decide (du l i = u)), ?_⟩
          rw [← List.filter_append, ← List.range_add, show a + 1 + (l.length - (a + 1)) = l.length by omega]
        obtain ⟨t, ht⟩ := hp
        have hz : t = [] := by
          have h1 : (kid l l.length u).length = (kid l (a + 1) u).length + t.length := by rw [ht, List.length_append]
          rw [hk1, List.length_append, List.length_singleton] at h1
          exact List.length_eq_zero_iff.1 (by omega)
        rw [ht, hz, List.append_nil]
      rw [hpre, hk1, lastL_snoc, hl] at hdo
      simp at hdo
    | false =>
      rw [Bool.not_false, Bool.true_and]
      obtain ⟨hP, hke⟩ := h.step hA ha hu (nx_leaf hA ha hl)
      by_cases he : a + 1 = l.length
      · rw [decide_eq_true he, Bool.true_or]
        symm
        apply decide_eq_true
        rw [← he, hke]; simp
      · rw [decide_eq_false he, Bool.false_or]
        by_cases hq : du l (a + 1) = u
        · rw [decide_eq_true hq]
          symm
          apply decide_eq_false
          intro hlen
          have hp : ∃ t, kid l l.length u = kid l (a + 1 + 1) u ++ t := by
            unfold kid
            refine ⟨((List.range (l.length - (a + 1 + 1))).map ((a + 1 + 1) + ·)).filter (fun i => decide (u < (i : Int)) && decide (du l i = u)), ?_⟩
            rw [← List.filter_append, ← List.range_add, show a + 1 + 1 + (l.length - (a + 1 + 1)) = l.length by omega]
          obtain ⟨t, ht⟩ := hp
          have h1 : (kid l l.length u).length = (kid l (a + 1 + 1) u).length + t.length := by rw [ht, List.length_append]
          rw [kid_snoc, if_pos ⟨by omega, hq⟩, hk1] at h1
          simp at h1
          omega
        · rw [decide_eq_false hq]
          obtain ⟨_, hd3⟩ := hP.done hA (fun _ => hq)
          symm
          apply decide_eq_true
          rw [hd3, hke]; simp
end Go.Proofs.YtnmofolhfbldjaaGreatDoor

/-
  How data are read: plain facts on blanks and words.
-/
namespace Go.Proofs.YtnmofolhfbldjaaGreatDoor
set_option linter.unusedVariables false

def byteAt (s : ByteArray) (a : Nat) : UInt8 := s.data.toList.getD a 0
theorem byteAt_eq {s : ByteArray} {a : Nat} (h : a < s.size) : byteAt s a = s[a] := by
  unfold byteAt
  simp only [List.getD]
  have h' : a < s.data.toList.length := by simpa using h
  rw [List.getElem?_eq_getElem h']; rfl
/-- Where what stands between data ends (c: within a comment). -/
def skipF (s : ByteArray) : Nat → Nat → Bool → Nat
  | 0, a, _ => a
  | f + 1, a, c => if byteAt s a = 10 then skipF s f (a + 1) false else if c then skipF s f (a + 1) true else if byteAt s a = 59 then skipF s f (a + 1) true else if byteAt s a = 32 ∨ byteAt s a = 9 ∨ byteAt s a = 13 then skipF s f (a + 1) false else a
def skipP (s : ByteArray) (a : Nat) : Nat := skipF s (s.size - a) a false
theorem skipF_le (s : ByteArray) : ∀ (f a : Nat) (c : Bool), a ≤ skipF s f a c ∧ skipF s f a c ≤ a + f
  | 0, a, c => by simp [skipF]
  | f + 1, a, c => by
    have h1 := skipF_le s f (a + 1) false
    have h2 := skipF_le s f (a + 1) true
    rw [skipF]
    split
    · omega
    · split
      · omega
      · split
        · omega
        · split <;> omega
theorem skipP_le (s : ByteArray) (a : Nat) (h : a ≤ s.size) : a ≤ skipP s a ∧ skipP s a ≤ s.size := by
  have := skipF_le s (s.size - a) a false
  unfold skipP; omega
theorem skip_step {s : ByteArray} {a : Nat} (h : a < s.size) (c : Bool) : skipF s (s.size - a) a c = if byteAt s a = 10 then skipF s (s.size - (a + 1)) (a + 1) false else if c then skipF s (s.size - (a + 1)) (a + 1) true else if byteAt s a = 59 then skipF s (s.size - (a + 1)) (a + 1) true else if byteAt s a = 32 ∨ byteAt s a = 9 ∨ byteAt s a = 13 then skipF s (s.size - (a + 1)) (a + 1) false else a := by
  obtain ⟨f, hf⟩ : ∃ f, s.size - a = f + 1 := ⟨s.size - a - 1, by omega⟩
  rw [hf, skipF, show s.size - (a + 1) = f by omega]
theorem skip_end {s : ByteArray} {a : Nat} (h : a = s.size) (c : Bool) : skipF s (s.size - a) a c = a := by
  rw [show s.size - a = 0 by omega]; rfl

theorem skip_blank {s : ByteArray} {a : Nat} (h : a < s.size) (hb : byteAt s a = 32 ∨ byteAt s a = 9 ∨ byteAt s a = 10 ∨ byteAt s a = 13) : skipF s (s.size - a) a false = skipF s (s.size - (a + 1)) (a + 1) false := by
  rw [skip_step h]
  by_cases h10 : byteAt s a = 10
  · rw [if_pos h10]
  · rw [if_neg h10, if_neg (by decide)]
    by_cases h59 : byteAt s a = 59
    · rw [h59] at hb; exact absurd hb (by decide)
    · rw [if_neg h59]
      rw [if_pos]
      rcases hb with e | e | e | e
      · exact .inl e
      · exact .inr (.inl e)
      · exact absurd e h10
      · exact .inr (.inr e)
theorem skip_semi {s : ByteArray} {a : Nat} (h : a < s.size) (hb : byteAt s a = 59) : skipF s (s.size - a) a false = skipF s (s.size - a) a true := by
  rw [skip_step h, skip_step h, hb, if_neg (by decide), if_neg (by decide), if_pos rfl, if_neg (by decide), if_pos rfl]
theorem skip_com {s : ByteArray} {a : Nat} (h : a < s.size) (hb : byteAt s a ≠ 10) : skipF s (s.size - a) a true = skipF s (s.size - (a + 1)) (a + 1) true := by
  rw [skip_step h, if_neg hb, if_pos rfl]
theorem skip_nl {s : ByteArray} {a : Nat} (h : a < s.size) (hb : byteAt s a = 10) : skipF s (s.size - a) a true = skipF s (s.size - a) a false := by
  rw [skip_step h, skip_step h, if_pos hb, if_pos hb]
theorem skip_stop {s : ByteArray} {a : Nat} (h : a < s.size) (h1 : byteAt s a ≠ 32) (h2 : byteAt s a ≠ 9) (h3 : byteAt s a ≠ 10) (h4 : byteAt s a ≠ 13) (h5 : byteAt s a ≠ 59) : skipF s (s.size - a) a false = a := by
  rw [skip_step h, if_neg h3, if_neg (by decide), if_neg h5, if_neg (by simp [h1, h2, h4])]

/-- A byte at which a word ends. -/
def stopB (c : UInt8) : Bool := c == 32 || c == 9 || c == 10 || c == 13 || c == 40 || c == 41 || c == 34 || c == 59 || c == 39
def wordF (s : ByteArray) : Nat → Nat → Nat
  | 0, a => a
  | f + 1, a => if stopB (byteAt s a) then a else wordF s f (a + 1)
def wordP (s : ByteArray) (a : Nat) : Nat := wordF s (s.size - a) a
theorem wordF_le (s : ByteArray) : ∀ (f a : Nat), a ≤ wordF s f a ∧ wordF s f a ≤ a + f
  | 0, a => by simp [wordF]
  | f + 1, a => by
    have h1 := wordF_le s f (a + 1)
    rw [wordF]
    split <;> omega
theorem wordP_le (s : ByteArray) (a : Nat) (h : a ≤ s.size) : a ≤ wordP s a ∧ wordP s a ≤ s.size := by
  have := wordF_le s (s.size - a) a
  unfold wordP; omega
theorem word_step {s : ByteArray} {a : Nat} (h : a < s.size) : wordP s a = if stopB (byteAt s a) then a else wordP s (a + 1) := by
  unfold wordP
  obtain ⟨f, hf⟩ : ∃ f, s.size - a = f + 1 := ⟨s.size - a - 1, by omega⟩
  rw [hf, wordF, show s.size - (a + 1) = f by omega]
theorem word_end {s : ByteArray} {a : Nat} (h : a = s.size) : wordP s a = a := by
  unfold wordP; rw [show s.size - a = 0 by omega]; rfl
end Go.Proofs.YtnmofolhfbldjaaGreatDoor

/-
  Data in memory: a row of nodes, three cells each.
-/
namespace Go.Proofs.YtnmofolhfbldjaaGreatDoor
open Go.RowKit
set_option linter.unusedVariables false

def dmL (d : Dm) : List Value := [.int .i64 d.k, .string d.t, .int .i64 d.u]
def datC (l : List Dm) : Array Value := (l.flatMap dmL).toArray
def DatAt (w : World) (b : Nat) (l : List Dm) : Prop := RowAt w b 39 (datC l)
theorem flat_get : ∀ (l : List Dm) (i j : Nat) (hi : i < l.length), j < 3 → (l.flatMap dmL)[3 * i + j]? = (dmL l[i])[j]?
  | d :: l, 0, j, hi, hj => by
    rw [List.flatMap_cons, List.getElem?_append_left (by simp [dmL]; omega)]; simp
  | d :: l, i + 1, j, hi, hj => by
    rw [List.flatMap_cons, List.getElem?_append_right (by simp [dmL]; omega)]
    have : 3 * (i + 1) + j - (dmL d).length = 3 * i + j := by simp [dmL]; omega
    rw [this, flat_get l i j (by simpa using hi) hj]; simp
theorem dat_len (l : List Dm) : (l.flatMap dmL).length = 3 * l.length := by
  induction l with
  | nil => rfl
  | cons d l ih => rw [List.flatMap_cons, List.length_append, ih]; simp [dmL]; omega
theorem getD_at (l : List Dm) (i : Nat) (hi : i < l.length) : l.getD i default = l[i] := by simp [List.getD, List.getElem?_eq_getElem hi]
theorem dat_cell {w : World} {b : Nat} {l : List Dm} (h : DatAt w b l) (i j : Nat) (hi : i < l.length) (hj : j < 3) (v : Value) (hv : (dmL (l.getD i default))[j]? = some v) : w.cell? ⟨b, 3 * i + j, none⟩ = some v := by
  rw [cell_of_row w b _ _ _ _ h]
  show (l.flatMap dmL).toArray[3 * i + j]? = some v
  rw [List.getElem?_toArray, flat_get l i j hi hj, ← getD_at l i hi]
  exact hv
theorem dat_k {w : World} {b : Nat} {l : List Dm} (h : DatAt w b l) {i : Nat} (hi : i < l.length) : w.cell? ⟨b, i * 3, none⟩ = some (.int .i64 (dk l i)) := by
  have := dat_cell h i 0 hi (by decide) (.int .i64 (dk l i)) rfl
  rwa [show 3 * i + 0 = i * 3 by omega] at this
theorem dat_t {w : World} {b : Nat} {l : List Dm} (h : DatAt w b l) {i : Nat} (hi : i < l.length) : w.cell? ⟨b, i * 3 + 1, none⟩ = some (.string (dt l i)) := by
  have := dat_cell h i 1 hi (by decide) (.string (dt l i)) rfl
  rwa [show 3 * i + 1 = i * 3 + 1 by omega] at this
theorem dat_u {w : World} {b : Nat} {l : List Dm} (h : DatAt w b l) {i : Nat} (hi : i < l.length) : w.cell? ⟨b, i * 3 + 2, none⟩ = some (.int .i64 (du l i)) := by
  have := dat_cell h i 2 hi (by decide) (.int .i64 (du l i)) rfl
  rwa [show 3 * i + 2 = i * 3 + 2 by omega] at this
/-- The slice of a row's all nodes. -/
abbrev slV (b : Nat) (l : List Dm) : Value := .slice (some ⟨b, 0, none⟩) l.length l.length

set_option maxHeartbeats 1000000 in
set_option maxRecDepth 100000 in
theorem isList_any (k : Int) (w : World) : Calls Tryz.prog 69 #[.int .i64 k] w fun e w' => e = .returned (.bool (isL k)) ∧ w' = w := by
  by_cases h5 : k = 5
  · subst h5
    go_enter Tryz.func69, Tryz.ntmps69
    go_wp2
    go_ret
    exact ⟨rfl, rfl⟩
  · have h5' : (k == 5) = false := beq_eq_false_iff_ne.2 h5
    have HN : Hid (isL k = (k == 6)) := by
      unfold Hid isL; rw [decide_eq_false h5, Bool.false_or]; rfl
    clear h5
    go_enter Tryz.func69, Tryz.ntmps69
    go_wp2
    go_ret
    exact ⟨by rw [HN.out]; rfl, rfl⟩
set_option maxHeartbeats 1000000 in
set_option maxRecDepth 100000 in
theorem l3IsList_any (k : Int) (w : World) : Calls Tryz.prog 35 #[.int .i64 k] w fun e w' => e = .returned (.bool (isL k)) ∧ w' = w := by
  by_cases h5 : k = 5
  · subst h5
    go_enter Tryz.func35, Tryz.ntmps35
    go_wp2
    go_ret
    exact ⟨rfl, rfl⟩
  · have h5' : (k == 5) = false := beq_eq_false_iff_ne.2 h5
    have HN : Hid (isL k = (k == 6)) := by
      unfold Hid isL; rw [decide_eq_false h5, Bool.false_or]; rfl
    clear h5
    go_enter Tryz.func35, Tryz.ntmps35
    go_wp2
    go_ret
    exact ⟨by rw [HN.out]; rfl, rfl⟩

theorem upOk_hit {l : List Dm} {k j : Nat} (hy : (j : Int) = du l k) (h : inChain l k ((k : Int) - 1) (j : Int) = true) : upOk l k = isL (dk l j) := by
  unfold upOk
  rw [← hy, h, decide_eq_false (by omega), Int.toNat_natCast]; rfl
theorem upOk_end {l : List Dm} {k : Nat} (h : inChain l k ((k : Int) - 1) (du l k) = false) : upOk l k = decide (du l k = -1) := by
  unfold upOk
  rw [h, Bool.false_and, Bool.or_false]

end Go.Proofs.YtnmofolhfbldjaaGreatDoor

/-
  What is told of a node's text.
-/
namespace Go.Proofs.YtnmofolhfbldjaaGreatDoor
open Go.RowKit
set_option linter.unusedVariables false

set_option maxHeartbeats 1000000 in
set_option maxRecDepth 100000 in
theorem inString_any (c : UInt8) (x : Int) (w : World) (hx : x = (c.toNat : Int)) :
    Calls Tryz.prog 68 #[.int .u8 x] w fun e w' => e = .returned (.bool (strC c)) ∧ w' = w := by
  by_cases h1 : 32 ≤ x
  · by_cases h2 : x ≤ 126
    · have HN : Hid (strC c = true) := by unfold Hid strC; simp; omega
      clear hx
      go_enter Tryz.func68, Tryz.ntmps68
      go_wp2
      go_ret
      exact ⟨by rw [HN.out]; rfl, rfl⟩
    · have HN : Hid (strC c = false) := by unfold Hid strC; simp; omega
      have h3 : (x == 10) = false := beq_eq_false_iff_ne.2 (by omega)
      clear hx
      go_enter Tryz.func68, Tryz.ntmps68
      go_wp2
      go_ret
      exact ⟨by rw [HN.out]; rfl, rfl⟩
  · by_cases h3 : x = 10
    · have HN : Hid (strC c = true) := by unfold Hid strC; simp; omega
      have h3' : (x == 10) = true := by rw [h3]; rfl
      clear hx h3
      go_enter Tryz.func68, Tryz.ntmps68
      go_wp2
      go_ret
      exact ⟨by rw [HN.out]; rfl, rfl⟩
    · have HN : Hid (strC c = false) := by unfold Hid strC; simp; omega
      have h3' : (x == 10) = false := beq_eq_false_iff_ne.2 (by omega)
      clear hx h3
      go_enter Tryz.func68, Tryz.ntmps68
      go_wp2
      go_ret
      exact ⟨by rw [HN.out]; rfl, rfl⟩

theorem str_bad {s : ByteArray} (k : Nat) (h : k < s.size) (hb : strC s[k] = false) : s.data.toList.all strC = false := by
  rw [List.all_eq_false]
  exact ⟨s.data.toList[k]'(by simpa using h), List.getElem_mem _, by show ¬ strC s[k] = true; rw [hb]; decide⟩
theorem str_all {s : ByteArray} (h : ∀ (k : Nat) (hk : k < s.size), strC (s[k]'hk) = true) : s.data.toList.all strC = true := by
  rw [List.all_eq_true]
  intro c hc
  obtain ⟨i, hi, rfl⟩ := List.getElem_of_mem hc
  exact h i (by simpa using hi)

set_option maxHeartbeats 1000000 in
set_option maxRecDepth 100000 in
theorem l3String_any (s : ByteArray) (w : World) (hs : s.size ≤ maxLen) :
    Calls Tryz.prog 36 #[.string s] w fun e w' => e = .returned (.bool (strOk s.data.toList)) ∧ w' = w := by
  unfold maxLen at hs
  go_enter Tryz.func36, Tryz.ntmps36
  go_wp2_with fail
  go_loopg [3] s.size (fun g i wr => ∃ k : Nat, g = s.size - k ∧ k ≤ s.size ∧ i = .int .i64 (k : Int) ∧ Hid (∀ (j : Nat) (hj : j < s.size), j < k → strC (s[j]'hj) = true) ∧ wr = w)
  case atStart => exact ⟨0, rfl, by omega, rfl, fun j _ hj => by omega, rfl⟩
  case round =>
    obtain ⟨k, hg, hk, rfl, HK, rfl⟩ := hrel
    by_cases hk1 : (k : Int) < (s.size : Int)
    · have hk' : k < s.size := by omega
      obtain ⟨x, hx⟩ : ∃ x : Int, x = ((s[k]'hk').toNat : Int) := ⟨_, rfl⟩
      have NO : Hid (strC (s[k]'hk') = false → strOk s.data.toList = false) := fun h => by unfold strOk; rw [str_bad k hk' h, Bool.and_false]
      have YES : Hid (strC (s[k]'hk') = true → ∀ (j : Nat) (hj : j < s.size), j < k + 1 → strC (s[j]'hj) = true) := fun hb j hj hj2 => by
        by_cases e : j = k
        · subst e; exact hb
        · exact HK.out j hj (by omega)
      by_cases h1 : x < 32
      · by_cases h3 : x = 10
        · have HK2 := hideT' (YES.out (by unfold strC; simp; omega))
          have f1 : ((s[k]'hk').toNat : Int) < 32 := by omega
          have f2 : (((s[k]'hk').toNat : Int) == 10) = true := by rw [← hx, h3]; rfl
          clear hx h1 h3
          go_wp2
          go_roundg (s.size - (k + 1))
          case measure => omega
          case rel => exact ⟨k + 1, rfl, by omega, by go_num, HK2, rfl⟩
        · have HN := hideT' (NO.out (by unfold strC; simp; omega))
          have f1 : ((s[k]'hk').toNat : Int) < 32 := by omega
          have f2 : (((s[k]'hk').toNat : Int) == 10) = false := beq_eq_false_iff_ne.2 (by omega)
          clear hx h1 h3
          go_wp2
          go_ret
          exact ⟨by rw [HN.out]; rfl, rfl⟩
      · by_cases h2 : 126 < x
        · have HN := hideT' (NO.out (by unfold strC; simp; omega))
          have f1 : ¬ ((s[k]'hk').toNat : Int) < 32 := by omega
          have f3 : (126 : Int) < ((s[k]'hk').toNat : Int) := by omega
          have f2 : (((s[k]'hk').toNat : Int) == 10) = false := beq_eq_false_iff_ne.2 (by omega)
          clear hx h1 h2
          go_wp2
          go_ret
          exact ⟨by rw [HN.out]; rfl, rfl⟩
        · have HK2 := hideT' (YES.out (by unfold strC; simp; omega))
          have f1 : ¬ ((s[k]'hk').toNat : Int) < 32 := by omega
          have f3 : ¬ (126 : Int) < ((s[k]'hk').toNat : Int) := by omega
          clear hx h1 h2
          go_wp2
          go_roundg (s.size - (k + 1))
          case measure => omega
          case rel => exact ⟨k + 1, rfl, by omega, by go_num, HK2, rfl⟩
    · have HN : Hid (strOk s.data.toList = decide ((s.size : Int) ≤ 100)) := by
        unfold Hid strOk
        have hlen : s.data.toList.length = s.size := by simp
        rw [str_all (fun j hj => HK.out j hj (by omega)), Bool.and_true, hlen]
        exact decide_eq_decide.2 (by omega)
      go_wp2
      go_ret
      exact ⟨by rw [HN.out]; rfl, rfl⟩

/-- A node as a value. -/
def dmC (d : Dm) : Array Value := (dmL d).toArray
theorem dm_c0 {w : World} {b : Nat} {d : Dm} (h : RowAt w b 39 (dmC d)) : w.cell? ⟨b, 0, none⟩ = some (.int .i64 d.k) := by rw [cell_of_row w b _ _ _ _ h]; rfl
theorem dm_c1 {w : World} {b : Nat} {d : Dm} (h : RowAt w b 39 (dmC d)) : w.cell? ⟨b, 1, none⟩ = some (.string d.t) := by rw [cell_of_row w b _ _ _ _ h]; rfl
theorem dm_c2 {w : World} {b : Nat} {d : Dm} (h : RowAt w b 39 (dmC d)) : w.cell? ⟨b, 2, none⟩ = some (.int .i64 d.u) := by rw [cell_of_row w b _ _ _ _ h]; rfl

theorem txt_else {k : Int} {t : List UInt8} (h1 : k ≠ 1) (h2 : k ≠ 2) (h3 : k ≠ 3) (h4 : k ≠ 4) : txtOk k t = (isL k && (t == [])) := by
  unfold txtOk; rw [if_neg h1, if_neg h2, if_neg h3, if_neg h4]

end Go.Proofs.YtnmofolhfbldjaaGreatDoor

/-
  Nodes of data, read and written whole; the parts of a list.
-/
namespace Go.Proofs.YtnmofolhfbldjaaGreatDoor
open Go.RowKit
set_option linter.unusedVariables false

def DmAt (w : World) (b : Nat) (d : Dm) : Prop := RowAt w b 39 (dmC d)
theorem zero_dm : (∀ w, (zeroValue 39).run Tryz.prog w = .ok (.agg (dmC default)) w) ∧ (Tryz.prog.info? 39).map (·.size) = some 3 := zero_of_info (by kernel_rfl)
theorem dm_info (d : Dm) : (Tryz.prog.info? 39).map (·.size) = some (dmC d).size := zero_dm.2
theorem dmC_one (d : Dm) : (dmC d).all (·.oneCell') = true := all_oneCell_toArray (fun v hv => by
  simp [dmL] at hv
  rcases hv with rfl | rfl | rfl <;> rfl)
theorem dat_range {w : World} {b : Nat} {l : List Dm} (h : DatAt w b l) {i : Nat} (hi : i < l.length) : w.rangeAt b (i * 3) (dmL (l.getD i default)) := fun j v hv => by
  have hj : j < 3 := by
    have := (List.getElem?_eq_some_iff.1 hv).1
    simpa [dmL] using this
  rw [show i * 3 + j = 3 * i + j by omega]
  exact dat_cell h i j hi hj v hv
/-- A node in a row is read. -/
theorem load_dm {ops : Array Oper} {rest : List Oper} {o : Oper} {a : Act} {w : World} {Q : Exit → Act → World → Prop} (hgd : o.guard = none) (x : Operand) (ho : o.op = .load 39 x)
    (b i : Nat) (hx : a.eval x = .pointer (some ⟨b, i * 3, none⟩)) (l : List Dm) (hD : DatAt w b l) (hi : i < l.length) (d : Dm) (hd : l.getD i default = d)
    (h : wpList Tryz.prog ops Q rest (a.put o.dst (.agg (dmC d))) w) : wpList Tryz.prog ops Q (o :: rest) a w := by
  subst hd
  exact wpList_load_mid hgd 39 x ho b (i * 3) hx (dmL (l.getD i default)) _ (dat_range hD hi) Tryz.underlying39 rfl zero_dm.2 h
theorem dm_parts (l : List Dm) (k : Nat) : ∃ (q : Int) (t : ByteArray) (y : Int), l.getD k default = ⟨q, t, y⟩ ∧ q = dk l k ∧ t = dt l k ∧ y = du l k := ⟨dk l k, dt l k, du l k, rfl, rfl, rfl, rfl⟩
/-- A variable is read. -/
theorem load_dv {ops : Array Oper} {rest : List Oper} {o : Oper} {a : Act} {w : World} {Q : Exit → Act → World → Prop} (hgd : o.guard = none) (x : Operand) (ho : o.op = .load 39 x)
    (b : Nat) (hx : a.eval x = .pointer (some ⟨b, 0, none⟩)) (d : Dm) (hN : DmAt w b d)
    (h : wpList Tryz.prog ops Q rest (a.put o.dst (.agg (dmC d))) w) : wpList Tryz.prog ops Q (o :: rest) a w :=
  wpList_load_row hgd 39 x ho b hx 39 (dmC d) (0, 0) _ hN Tryz.underlying39 rfl (dm_info d) h
/-- A variable is written. -/
theorem store_dv {ops : Array Oper} {rest : List Oper} {o : Oper} {a : Act} {w : World} {Q : Exit → Act → World → Prop} (hgd : o.guard = none) (x y : Operand) (ho : o.op = .store 39 x y) (hd : o.dst = none)
    (b : Nat) (d : Dm) (hx : a.eval x = .pointer (some ⟨b, 0, none⟩)) (hy : a.eval y = .agg (dmC d)) (d0 : Dm) (hN : DmAt w b d0)
    (h : ∀ w', DmAt w' b d → w.grownBy w' (some b) → w'.heap.size = w.heap.size → wpList Tryz.prog ops Q rest a w') : wpList Tryz.prog ops Q (o :: rest) a w := by
  refine wpList_store_row hgd 39 x y ho b (dmC d) hx hy 39 (dmC d0) hN (dm_info d) rfl (dmC_one _) ?_
  rw [hd]
  exact h _ (setRow_heap w b _ _ _ _ hN) ⟨rfl, rfl, rfl, by simp, fun k _ hne => setRow_other w b k _ (by intro e; exact hne (by rw [e]))⟩ (by simp)

def natI (q : List Nat) : List Int := q.map (fun j : Nat => (j : Int))
theorem natI_len (q : List Nat) : (natI q).length = q.length := by simp [natI]

set_option maxHeartbeats 1000000 in
set_option maxRecDepth 100000 in
theorem l3Parts_any (b : Nat) (l : List Dm) (k : Nat) (x : Int) (w : World) (hx : x = (k : Int)) (hk : k < l.length) (hn : l.length ≤ 300) (hD : DatAt w b l) :
    Calls Tryz.prog 24 #[slV b l, .int .i64 x] w fun e w' => ∃ v : Value, e = .returned v ∧ w'.ownsRow w.heap.size 3 1 v (prt l l.length k).length (ints (natI (prt l l.length k))) ∧ Below w.heap.size w w' := by
  have HD := hideT' hD
  have hb := RowAt.lt hD
  subst hx
  clear hD
  obtain ⟨i0, hi, hz0, hz1, hz2⟩ := info_parts Tryz.info_int
  go_enter Tryz.func24, Tryz.ntmps24
  go_wp2_with fail
  go_loopg [5, 6] (l.length - (k + 1)) (fun g v x wr => ∃ (j n : Nat), g = l.length - j ∧ j ≤ l.length ∧ k < j ∧ x = .int .i64 (j : Int) ∧ Hid (n = (prt l j k).length) ∧ n ≤ 300 ∧ wr.ownsRow w.heap.size 3 1 v n (ints (natI (prt l j k))) ∧ Below w.heap.size w wr)
  case atStart =>
    refine ⟨k + 1, 0, rfl, by omega, by omega, by go_num, ?_, by omega, ?_, Below.refl _ _⟩
    · unfold Hid; rw [prt_low l k (k + 1) (Nat.le_refl _)]; rfl
    · rw [prt_low l k (k + 1) (Nat.le_refl _)]; exact World.ownsRow_nil _ _ _ _
  case round =>
    obtain ⟨j, n, hg, hj, hkj, rfl, HN, hn3, hown, hW⟩ := hrel
    have hWs := hW.size
    by_cases hlt : (j : Int) < (l.length : Int)
    · have hj' : j < l.length := by omega
      have hcu := dat_u (RowAt.below HD.out hW hb) hj'
      obtain ⟨y, hy⟩ : ∃ y, y = du l j := ⟨_, rfl⟩
      rw [← hy] at hcu
      by_cases h1 : y = (k : Int)
      · have HP : Hid (prt l (j + 1) k = prt l j k ++ [j]) := by unfold Hid; rw [prt_snoc, if_pos ⟨hkj, by rw [← hy, h1]⟩]
        have h1' : (y == (k : Int)) = true := by rw [h1]; exact beq_self_eq_true _
        clear hy h1
        go_wp2_with (first | (at_builtin; refine wpList_append_own _ rfl _ _ 50 rfl w.heap.size 3 i0 (.int .i64 0) 1 8 Tryz.underlying50 hi hz0 hz1 hz2 rfl (by decide) _ _ _ rfl (hown.alloc _) ⟨wr.heap.size, 0, none⟩ 1 1 [.int .i64 (j : Int)] rfl rfl (cell_one_new _ _ _) (one_cell _) (by unfold maxLen; omega) (by omega) (by simp; omega) ?_; intro v' w1 hown' hgrow _))
        go_roundg (l.length - (j + 1))
        case measure => omega
        case rel =>
          have hnl := HN.out
          have hpl := prt_len l (j + 1) k
          rw [HP.out] at hpl
          simp at hpl
          refine ⟨j + 1, n + 1, rfl, by omega, by omega, by go_num, ?_, by omega, ?_, ?_⟩
          · unfold Hid; rw [HP.out, hnl]; simp
          · rw [HP.out]; simpa [ints, natI] using hown'
          · refine Below.grown (hW.alloc hWs _) hgrow (by simp; omega) ?_
            intro k hk; exact own_ge hown hk
      · have HP : Hid (prt l (j + 1) k = prt l j k) := by unfold Hid; rw [prt_snoc, if_neg (fun h => h1 (by rw [hy]; exact h.2)), List.append_nil]
        have h1' : (y == (k : Int)) = false := beq_eq_false_iff_ne.2 h1
        clear hy h1
        go_wp2_with fail
        go_roundg (l.length - (j + 1))
        case measure => omega
        case rel => exact ⟨j + 1, n, rfl, by omega, by omega, by go_num, by unfold Hid; rw [HP.out]; exact HN.out, by omega, by rw [HP.out]; exact hown, hW⟩
    · have hje : j = l.length := by omega
      subst hje
      go_wp2
      go_ret
      exact ⟨_, rfl, by rw [← HN.out]; exact hown, hW⟩
end Go.Proofs.YtnmofolhfbldjaaGreatDoor
