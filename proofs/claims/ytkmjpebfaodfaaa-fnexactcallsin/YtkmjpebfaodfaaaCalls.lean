/-
  What both CallsIn answer: how many calls there are, and how many that are last.
-/
import Derived.Test.YtkmjpebfaodfaaaToldIns
import Derived.Test.YtkmjpebfaodfaaaSpecCode
import Derived.OwnWalk
namespace Go.Proofs.Ytkmjpebfaodfaaa
open Go.RowKit
set_option linter.unusedVariables false

/-- How many instructions are of a kind. -/
def manyI (k : Int) (l : List Ins) : Nat := (l.filter fun x => decide (x.1 = k)).length
theorem manyI_take {k : Int} {l : List Ins} {i : Nat} (hi : i < l.length) : manyI k (l.take (i + 1)) = manyI k (l.take i) + if (l.getD i default).1 = k then 1 else 0 := by
  have : l.getD i default = l[i] := by simp [List.getD, List.getElem?_eq_getElem hi]
  unfold manyI
  rw [this, List.take_succ_eq_append_getElem hi, List.filter_append, List.length_append]
  by_cases h : l[i].1 = k <;> simp [h]
theorem manyI_le (k : Int) (l : List Ins) : manyI k l ≤ l.length := List.length_filter_le _ _
def callsA (l : List Ins) : Ending := .returned (.tuple #[.int .i64 (if codeOk l then (manyI 9 l : Int) else 0), .int .i64 (if codeOk l then (manyI 10 l : Int) else 0), .bool (codeOk l)])
theorem callsA_no {l : List Ins} (h : codeOk l = false) : callsA l = .returned (.tuple #[.int .i64 0, .int .i64 0, .bool false]) := by unfold callsA; rw [h]; rfl
theorem callsA_yes {l : List Ins} (h : codeOk l = true) : callsA l = .returned (.tuple #[.int .i64 (manyI 9 l : Int), .int .i64 (manyI 10 l : Int), .bool true]) := by unfold callsA; rw [h]; rfl
theorem codeOk_len {l : List Ins} (h : codeOk l = true) : l.length ≤ 3000 := by unfold codeOk at h; simp only [Bool.and_eq_true, decide_eq_true_eq] at h; exact h.1

set_option maxHeartbeats 4000000 in
set_option maxRecDepth 100000 in
theorem implCallsIn_any (l : List Ins) (v : Value) (w : World) (hs : ∀ i, i < l.length → (l.getD i default).2.2.size ≤ 1048576) (hl : l.length ≤ 1048576) (hD : InR w v instrL 3 l) :
    Calls Try.prog 7 #[v] w fun e w' => e = callsA l ∧ Below w.heap.size w w' := by
  have HC := hideT' (areTold_any l v w hs hl hD)
  have HD := hideT' hD
  obtain ⟨o, cap, rfl, h⟩ := hD
  have hz := zero_instr.1
  clear h hs
  obtain ⟨q, hq⟩ : ∃ q, q = codeOk l := ⟨_, rfl⟩
  rw [← hq] at HC
  have HQ := hideT' hq
  clear hq
  go_enter Try.func7, Try.ntmps7
  go_wp2_with fail
  refine HC.out.mono ?_
  rintro e w1 ⟨rfl, hB1⟩
  cases q with
  | false =>
    have HA := hideT' (callsA_no HQ.out.symm)
    go_wp2
    go_ret3
    exact ⟨by rw [HA.out]; rfl, hB1⟩
  | true =>
    have HA := hideT' (callsA_yes HQ.out.symm)
    have hl3 := codeOk_len HQ.out.symm
    have hs1 := hB1.size
    go_wp2_with fail
    go_loopg [5, 6, 14] l.length (fun g c t i wr => ∃ (k a b : Nat), g = l.length - k ∧ k ≤ l.length ∧ i = .int .i64 (k : Int) ∧ c = .int .i64 (a : Int) ∧ t = .int .i64 (b : Int) ∧ Hid (a = manyI 9 (l.take k) ∧ b = manyI 10 (l.take k)) ∧ Below w.heap.size w wr)
    case atStart => exact ⟨0, 0, 0, rfl, by omega, rfl, rfl, rfl, ⟨rfl, rfl⟩, hB1⟩
    case round =>
      obtain ⟨k, a, b, hg, hk, rfl, rfl, rfl, HL, hW⟩ := hrel
      have hab : a ≤ 3000 ∧ b ≤ 3000 := by
        have h1 := manyI_le 9 (l.take k)
        have h2 := manyI_le 10 (l.take k)
        rw [List.length_take] at h1 h2
        rw [← HL.out.1] at h1
        rw [← HL.out.2] at h2
        omega
      obtain ⟨ha3, hb3⟩ := hab
      by_cases hlt : (k : Int) < (l.length : Int)
      · have hk' : k < l.length := by omega
        obtain ⟨o', cap', e', h⟩ := HD.out.below hW
        obtain ⟨bl, e2, hbl, hcl⟩ := h (by intro e; rw [e] at hk'; simp at hk')
        obtain ⟨d, hd⟩ : ∃ d, d = l.getD k default := ⟨_, rfl⟩
        cases e'
        cases e2
        have m9 := manyI_take (k := 9) hk'
        have m10 := manyI_take (k := 10) hk'
        rw [← hd, ← HL.out.1] at m9
        rw [← hd, ← HL.out.2] at m10
        obtain ⟨x, y, z⟩ := d
        have c0 := hcl k 0 (.int .i64 x) hk' (by rw [← hd]; rfl)
        have c1 := hcl k 1 (.int .i64 y) hk' (by rw [← hd]; rfl)
        have c2 := hcl k 2 (.string z) hk' (by rw [← hd]; rfl)
        rw [Nat.add_zero] at c0
        simp only at m9 m10
        have hWs := hW.size
        have hWn : Below w.heap.size w (wr.alloc (.cells #[.int .i64 x, .int .i64 y, .string z] 35)) := hW.alloc hWs _
        clear hd hcl h
        by_cases h9 : x = 9
        · have hb9 : (x == 9) = true := by simp [h9]
          have hb10 : (x == 10) = false := by simp [h9]
          have M := hideT' (And.intro m9 m10)
          have h9' : Hid (x = 9) := h9
          clear m9 m10 h9
          go_wp2
          go_roundg (l.length - (k + 1))
          case measure => omega
          case rel =>
            refine ⟨k + 1, a + 1, b, rfl, by omega, by go_num, by go_num, rfl, ⟨?_, ?_⟩, hWn⟩
            · rw [M.out.1, if_pos h9'.out]
            · rw [M.out.2, if_neg (by rw [h9'.out]; omega)]; rfl
        · have hb9 : (x == 9) = false := by simp [h9]
          by_cases h10 : x = 10
          · have hb10 : (x == 10) = true := by simp [h10]
            have M := hideT' (And.intro m9 m10)
            have h10' : Hid (x = 10) := h10
            have h9' : Hid (¬ x = 9) := h9
            clear m9 m10 h9 h10
            go_wp2
            go_roundg (l.length - (k + 1))
            case measure => omega
            case rel =>
              refine ⟨k + 1, a, b + 1, rfl, by omega, by go_num, rfl, by go_num, ⟨?_, ?_⟩, hWn⟩
              · rw [M.out.1, if_neg h9'.out]; rfl
              · rw [M.out.2, if_pos h10'.out]
          · have hb10 : (x == 10) = false := by simp [h10]
            have M := hideT' (And.intro m9 m10)
            have h10' : Hid (¬ x = 10) := h10
            have h9' : Hid (¬ x = 9) := h9
            clear m9 m10 h9 h10
            go_wp2
            go_roundg (l.length - (k + 1))
            case measure => omega
            case rel =>
              refine ⟨k + 1, a, b, rfl, by omega, by go_num, rfl, rfl, ⟨?_, ?_⟩, hWn⟩
              · rw [M.out.1, if_neg h9'.out]; rfl
              · rw [M.out.2, if_neg h10'.out]; rfl
      · have HE : Hid (a = manyI 9 l ∧ b = manyI 10 l) := by
          unfold Hid
          rw [HL.out.1, HL.out.2, List.take_of_length_le (by omega)]
          exact ⟨rfl, rfl⟩
        go_wp2
        go_ret3
        exact ⟨by rw [HA.out, ← HE.out.1, ← HE.out.2]; rfl, hW⟩

set_option maxHeartbeats 4000000 in
set_option maxRecDepth 100000 in
theorem specCallsIn_any (l : List Ins) (v : Value) (w : World) (hs : ∀ i, i < l.length → (l.getD i default).2.2.size ≤ 1048576) (hl : l.length ≤ 1048576) (hD : InR w v instrL 3 l) :
    Calls Try.prog 5 #[v] w fun e w' => e = callsA l ∧ Below w.heap.size w w' := by
  have HC := hideT' (specCodeText_any l v w hs hl hD)
  have HD := hideT' hD
  obtain ⟨o, cap, rfl, h⟩ := hD
  have hz := zero_instr.1
  clear h hs
  obtain ⟨q, hq⟩ : ∃ q, q = codeOk l := ⟨_, rfl⟩
  obtain ⟨s, hsx⟩ : ∃ s : ByteArray, codeAns l = .returned (.tuple #[.string s, .bool q]) := ⟨_, by rw [hq]; rfl⟩
  rw [hsx] at HC
  have HQ := hideT' hq
  clear hq hsx
  go_enter Try.func5, Try.ntmps5
  go_wp2_with fail
  refine HC.out.mono ?_
  rintro e w1 ⟨rfl, hB1⟩
  cases q with
  | false =>
    have HA := hideT' (callsA_no HQ.out.symm)
    go_wp2
    go_ret3
    exact ⟨by rw [HA.out]; rfl, hB1⟩
  | true =>
    have HA := hideT' (callsA_yes HQ.out.symm)
    have hl3 := codeOk_len HQ.out.symm
    have hs1 := hB1.size
    go_wp2_with fail
    go_loopg [7, 8, 20] l.length (fun g c t i wr => ∃ (k a b : Nat), g = l.length - k ∧ k ≤ l.length ∧ i = .int .i64 (k : Int) ∧ c = .int .i64 (a : Int) ∧ t = .int .i64 (b : Int) ∧ Hid (a = manyI 9 (l.take k) ∧ b = manyI 10 (l.take k)) ∧ Below w.heap.size w wr)
    case atStart => exact ⟨0, 0, 0, rfl, by omega, rfl, rfl, rfl, ⟨rfl, rfl⟩, hB1⟩
    case round =>
      obtain ⟨k, a, b, hg, hk, rfl, rfl, rfl, HL, hW⟩ := hrel
      have hab : a ≤ 3000 ∧ b ≤ 3000 := by
        have h1 := manyI_le 9 (l.take k)
        have h2 := manyI_le 10 (l.take k)
        rw [List.length_take] at h1 h2
        rw [← HL.out.1] at h1
        rw [← HL.out.2] at h2
        omega
      obtain ⟨ha3, hb3⟩ := hab
      by_cases hlt : (k : Int) < (l.length : Int)
      · have hk' : k < l.length := by omega
        obtain ⟨o', cap', e', h⟩ := HD.out.below hW
        obtain ⟨bl, e2, hbl, hcl⟩ := h (by intro e; rw [e] at hk'; simp at hk')
        obtain ⟨d, hd⟩ : ∃ d, d = l.getD k default := ⟨_, rfl⟩
        cases e'
        cases e2
        have m9 := manyI_take (k := 9) hk'
        have m10 := manyI_take (k := 10) hk'
        rw [← hd, ← HL.out.1] at m9
        rw [← hd, ← HL.out.2] at m10
        obtain ⟨x, y, z⟩ := d
        have c0 := hcl k 0 (.int .i64 x) hk' (by rw [← hd]; rfl)
        have c1 := hcl k 1 (.int .i64 y) hk' (by rw [← hd]; rfl)
        have c2 := hcl k 2 (.string z) hk' (by rw [← hd]; rfl)
        rw [Nat.add_zero] at c0
        simp only at m9 m10
        have hWs := hW.size
        have hWn : Below w.heap.size w (wr.alloc (.cells #[.int .i64 x, .int .i64 y, .string z] 35)) := hW.alloc hWs _
        clear hd hcl h
        by_cases h9 : x = 9
        · have hb9 : (x == 9) = true := by simp [h9]
          have hb10 : (x == 10) = false := by simp [h9]
          have M := hideT' (And.intro m9 m10)
          have h9' : Hid (x = 9) := h9
          clear m9 m10 h9
          go_wp2
          go_roundg (l.length - (k + 1))
          case measure => omega
          case rel =>
            refine ⟨k + 1, a + 1, b, rfl, by omega, by go_num, by go_num, rfl, ⟨?_, ?_⟩, hWn⟩
            · rw [M.out.1, if_pos h9'.out]
            · rw [M.out.2, if_neg (by rw [h9'.out]; omega)]; rfl
        · have hb9 : (x == 9) = false := by simp [h9]
          by_cases h10 : x = 10
          · have hb10 : (x == 10) = true := by simp [h10]
            have M := hideT' (And.intro m9 m10)
            have h10' : Hid (x = 10) := h10
            have h9' : Hid (¬ x = 9) := h9
            clear m9 m10 h9 h10
            go_wp2
            go_roundg (l.length - (k + 1))
            case measure => omega
            case rel =>
              refine ⟨k + 1, a, b + 1, rfl, by omega, by go_num, rfl, by go_num, ⟨?_, ?_⟩, hWn⟩
              · rw [M.out.1, if_neg h9'.out]; rfl
              · rw [M.out.2, if_pos h10'.out]
          · have hb10 : (x == 10) = false := by simp [h10]
            have M := hideT' (And.intro m9 m10)
            have h10' : Hid (¬ x = 10) := h10
            have h9' : Hid (¬ x = 9) := h9
            clear m9 m10 h9 h10
            go_wp2
            go_roundg (l.length - (k + 1))
            case measure => omega
            case rel =>
              refine ⟨k + 1, a, b, rfl, by omega, by go_num, rfl, rfl, ⟨?_, ?_⟩, hWn⟩
              · rw [M.out.1, if_neg h9'.out]; rfl
              · rw [M.out.2, if_neg h10'.out]; rfl
      · have HE : Hid (a = manyI 9 l ∧ b = manyI 10 l) := by
          unfold Hid
          rw [HL.out.1, HL.out.2, List.take_of_length_le (by omega)]
          exact ⟨rfl, rfl⟩
        go_wp2
        go_ret3
        exact ⟨by rw [HA.out, ← HE.out.1, ← HE.out.2]; rfl, hW⟩
end Go.Proofs.Ytkmjpebfaodfaaa
