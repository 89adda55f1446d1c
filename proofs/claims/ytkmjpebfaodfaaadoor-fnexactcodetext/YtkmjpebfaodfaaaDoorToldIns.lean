/-
  What impl.areTold answers: whether instructions have a text.
-/
import Derived.Test.YtkmjpebfaodfaaaDoorCodeMath
import Derived.Test.YtkmjpebfaodfaaaDoorRecs2
import Derived.Test.YtkmjpebfaodfaaaDoorShelfCode
import Derived.Lib.IndexAny
namespace Go.Proofs.YtkmjpebfaodfaaaDoor
open Go.RowKit
set_option linter.unusedVariables false

set_option maxHeartbeats 1000000 in
set_option maxRecDepth 100000 in
theorem isTold_any (x : Ins) (w : World) (hs : x.2.2.size ≤ 1048576) :
    Calls Tryd.prog 30 #[.agg (instrL x).toArray] w fun e w' => e = .returned (.bool (insOk x)) ∧ Below w.heap.size w w' := by
  obtain ⟨a, b, c⟩ := x
  simp only at hs
  have hB : Below w.heap.size w (w.alloc (.cells #[.int .i64 a, .int .i64 b, .string c] 43)) := (Below.refl _ _).alloc (Nat.le_refl _) _
  show Calls Tryd.prog 30 #[.agg #[.int .i64 a, .int .i64 b, .string c]] w _
  by_cases h1 : 1 ≤ a
  · by_cases h2 : a ≤ 13
    · by_cases h3 : 0 ≤ b
      · by_cases h4 : b ≤ 100000
        · by_cases h5 : (c.size : Int) ≤ 1500
          · have hcon := Lib.contains_iff_indexByte c.data.toList 10
            have HE : Hid (insOk (a, b, c) = !(c.data.toList.contains 10)) := by
              unfold Hid insOk
              simp only
              rw [decide_eq_true h1, decide_eq_true h2, decide_eq_true h3, decide_eq_true h4, decide_eq_true (show c.size ≤ 1500 by omega)]
              simp
            have HCON := hideT' hcon
            clear hcon
            go_enter Tryd.func30, Tryd.ntmps30
            go_wp2_with fail
            refine (Tryd.strings_Contains_one c 10 _).mono ?_
            rintro e w1 ⟨rfl, rfl⟩
            rw [← HCON.out]
            obtain ⟨q, hq⟩ : ∃ q, q = c.data.toList.contains 10 := ⟨_, rfl⟩
            rw [← hq]
            have HQ := hideT' hq
            clear hq
            cases q
            · go_wp2
              go_ret
              exact ⟨by rw [HE.out, ← HQ.out]; rfl, hB⟩
            · go_wp2
              go_ret
              exact ⟨by rw [HE.out, ← HQ.out]; rfl, hB⟩
          · have HE : Hid (insOk (a, b, c) = false) := by
              unfold Hid insOk
              rw [decide_eq_false (show ¬ (a, b, c).2.2.size ≤ 1500 by simp only; omega)]; simp
            go_enter Tryd.func30, Tryd.ntmps30
            go_wp2
            go_ret
            exact ⟨by rw [HE.out]; rfl, hB⟩
        · have HE : Hid (insOk (a, b, c) = false) := by
            unfold Hid insOk
            rw [decide_eq_false (show ¬ (a, b, c).2.1 ≤ 100000 from h4)]; simp
          go_enter Tryd.func30, Tryd.ntmps30
          go_wp2
          go_ret
          exact ⟨by rw [HE.out]; rfl, hB⟩
      · have HE : Hid (insOk (a, b, c) = false) := by
          unfold Hid insOk
          rw [decide_eq_false (show ¬ 0 ≤ (a, b, c).2.1 from h3)]; simp
        go_enter Tryd.func30, Tryd.ntmps30
        go_wp2
        go_ret
        exact ⟨by rw [HE.out]; rfl, hB⟩
    · have HE : Hid (insOk (a, b, c) = false) := by
        unfold Hid insOk
        rw [decide_eq_false (show ¬ (a, b, c).1 ≤ 13 from h2)]; simp
      go_enter Tryd.func30, Tryd.ntmps30
      go_wp2
      go_ret
      exact ⟨by rw [HE.out]; rfl, hB⟩
  · have HE : Hid (insOk (a, b, c) = false) := by
      unfold Hid insOk
      rw [decide_eq_false (show ¬ 1 ≤ (a, b, c).1 from h1)]; simp
    go_enter Tryd.func30, Tryd.ntmps30
    go_wp2
    go_ret
    exact ⟨by rw [HE.out]; rfl, hB⟩

theorem insAll_prefix {l : List Ins} {k : Nat} (hk : k < l.length) (h : (l.take k).all insOk = true) (hx : insOk (l.getD k default) = true) : (l.take (k + 1)).all insOk = true := by
  rw [insAll_take hk, h, hx]; rfl
set_option maxHeartbeats 1000000 in
set_option maxRecDepth 100000 in
theorem notTold_any (x : Ins) (w : World) (hs : x.2.2.size ≤ 1048576) :
    Calls Tryd.prog 29 #[.agg (instrL x).toArray] w fun e w' => e = .returned (.bool (!insOk x)) ∧ Below w.heap.size w w' := by
  obtain ⟨q, hq⟩ : ∃ q, q = insOk x := ⟨_, rfl⟩
  have HC := hideT' (isTold_any x (w.alloc (.cells #[.int .i64 x.1, .int .i64 x.2.1, .string x.2.2] 43)) hs)
  rw [← hq] at HC ⊢
  have hB : Below w.heap.size w (w.alloc (.cells #[.int .i64 x.1, .int .i64 x.2.1, .string x.2.2] 43)) := (Below.refl _ _).alloc (Nat.le_refl _) _
  clear hq
  obtain ⟨a, b, c⟩ := x
  show Calls Tryd.prog 29 #[.agg #[.int .i64 a, .int .i64 b, .string c]] w _
  go_enter Tryd.func29, Tryd.ntmps29
  go_wp2_with fail
  refine HC.out.mono ?_
  rintro e w1 ⟨rfl, hB1⟩
  have hB2 := hB.trans (hB1.mono (by simp))
  go_wp2
  go_ret
  exact ⟨rfl, hB2⟩
theorem call_areTold1 : ∀ args w, (callFunc 29 args).run Tryd.prog w = .ok (.enter 29 args) w := enters_of Tryd.func29 (by kernel_rfl) rfl
/-- The first that is not told. -/
def badAt : List Ins → Int → Int
  | [], _ => -1
  | x :: l, k => if insOk x then badAt l (k + 1) else k
theorem badAt_ge : ∀ (l : List Ins) (k : Int), 0 ≤ k → (decide (0 ≤ badAt l k)) = !(l.all insOk)
  | [], k, h => rfl
  | x :: l, k, h => by
    rw [badAt, List.all_cons]
    cases hx : insOk x with
    | true => simp only [if_true, Bool.true_and]; exact badAt_ge l (k + 1) (by omega)
    | false => simp [h]
theorem badAt_drop {l : List Ins} {k : Nat} (hk : k < l.length) : badAt (l.drop k) (k : Int) = if insOk (l.getD k default) then badAt (l.drop (k + 1)) ((k : Int) + 1) else (k : Int) := by
  have : l.getD k default = l[k] := by simp [List.getD, List.getElem?_eq_getElem hk]
  rw [List.drop_eq_getElem_cons hk, badAt, this]
set_option maxHeartbeats 2000000 in
set_option maxRecDepth 100000 in
theorem indexFunc_any (l : List Ins) (v : Value) (w : World) (hs : ∀ i, i < l.length → (l.getD i default).2.2.size ≤ 1048576) (hl : l.length ≤ 1048576) (hD : InR w v instrL 3 l) :
    Calls Tryd.prog 36 #[v, .func (.func 29) #[] #[]] w fun e w' => e = .returned (.int .i64 (badAt l 0)) ∧ Below w.heap.size w w' := by
  have HS := hideT' hs
  have HD := hideT' hD
  have hcf := call_areTold1
  obtain ⟨o, cap, rfl, h⟩ := hD
  clear h hs
  go_enter Tryd.func36, Tryd.ntmps36
  go_wp2_with fail
  go_loopg [5, 8] l.length (fun g _ i wr => ∃ (k : Nat), g = l.length - k ∧ k ≤ l.length ∧ i = .int .i64 (k : Int) ∧ Hid (badAt l 0 = badAt (l.drop k) (k : Int)) ∧ Below w.heap.size w wr)
  case atStart => exact ⟨0, rfl, by omega, rfl, rfl, Below.refl _ _⟩
  case round =>
    obtain ⟨k, hg, hk, rfl, HL, hW⟩ := hrel
    by_cases hlt : (k : Int) < (l.length : Int)
    · have hk' : k < l.length := by omega
      obtain ⟨o', cap', e', h⟩ := HD.out.below hW
      obtain ⟨bl, e2, hbl, hcl⟩ := h (by intro e; rw [e] at hk'; simp at hk')
      obtain ⟨d, hd⟩ : ∃ d, d = l.getD k default := ⟨_, rfl⟩
      cases e'
      cases e2
      have hds := HS.out k hk'
      rw [← hd] at hds
      have HBD := hideT' (badAt_drop hk')
      rw [← hd] at HBD
      have HC := hideT' (notTold_any d wr hds)
      obtain ⟨a, b, c⟩ := d
      have c0 := hcl k 0 (.int .i64 a) hk' (by rw [← hd]; rfl)
      have c1 := hcl k 1 (.int .i64 b) hk' (by rw [← hd]; rfl)
      have c2 := hcl k 2 (.string c) hk' (by rw [← hd]; rfl)
      rw [Nat.add_zero] at c0
      obtain ⟨q, hq⟩ : ∃ q, q = insOk (a, b, c) := ⟨_, rfl⟩
      rw [← hq] at HC HBD
      have hWs := hW.size
      clear hd hds hcl h hq
      go_wp2_with fail
      refine HC.out.mono ?_
      rintro e w1 ⟨rfl, hB1⟩
      have hW1 := hW.trans (hB1.mono hWs)
      cases q with
      | false =>
        go_wp2
        go_ret
        exact ⟨by rw [HL.out, HBD.out]; rfl, hW1⟩
      | true =>
        go_wp2
        go_roundg (l.length - (k + 1))
        case measure => omega
        case rel => exact ⟨k + 1, rfl, by omega, by go_num, by unfold Hid; rw [HL.out, HBD.out]; simp, hW1⟩
    · have HE : Hid (badAt l 0 = -1) := by unfold Hid; rw [HL.out, List.drop_eq_nil_of_le (by omega)]; rfl
      go_wp2
      go_ret
      exact ⟨by rw [HE.out]; rfl, hW⟩
set_option maxHeartbeats 2000000 in
set_option maxRecDepth 100000 in
theorem areTold_any (l : List Ins) (v : Value) (w : World) (hs : ∀ i, i < l.length → (l.getD i default).2.2.size ≤ 1048576) (hl : l.length ≤ 1048576) (hD : InR w v instrL 3 l) :
    Calls Tryd.prog 19 #[v] w fun e w' => e = .returned (.bool (codeOk l)) ∧ Below w.heap.size w w' := by
  have HC := hideT' (indexFunc_any l v w hs hl hD)
  obtain ⟨o, cap, rfl, h⟩ := hD
  clear h hs
  obtain ⟨q, hq⟩ : ∃ q, q = codeOk l := ⟨_, rfl⟩
  rw [← hq]
  have HQ := hideT' hq
  clear hq
  by_cases h3 : (l.length : Int) ≤ 3000
  · have HE : Hid (q = !(decide (0 ≤ badAt l 0))) := by
      unfold Hid
      rw [HQ.out, badAt_ge l 0 (Int.le_refl _)]
      unfold codeOk
      rw [decide_eq_true (show l.length ≤ 3000 by omega)]
      simp
    obtain ⟨x, hx⟩ : ∃ x, x = badAt l 0 := ⟨_, rfl⟩
    rw [← hx] at HC HE
    clear hx
    have HCC : Hid (Calls Tryd.prog 28 #[.slice o l.length cap, .func (.func 29) #[] #[]] w fun e w' => e = .returned (.bool (decide (0 ≤ x))) ∧ Below w.heap.size w w') := by
      unfold Hid
      go_enter Tryd.func28, Tryd.ntmps28
      go_wp2_with fail
      refine HC.out.mono ?_
      rintro e w1 ⟨rfl, hB1⟩
      go_wp2
      go_ret
      exact ⟨rfl, hB1⟩
    obtain ⟨y, hy⟩ : ∃ y, y = decide (0 ≤ x) := ⟨_, rfl⟩
    rw [← hy] at HCC HE
    clear hy HC
    go_enter Tryd.func19, Tryd.ntmps19
    go_wp2_with fail
    refine HCC.out.mono ?_
    rintro e w1 ⟨rfl, hB1⟩
    go_wp2
    go_ret
    exact ⟨by rw [HE.out]; rfl, hB1⟩
  · have HE : Hid (q = false) := by unfold Hid; rw [HQ.out]; unfold codeOk; rw [decide_eq_false (show ¬ l.length ≤ 3000 by omega)]; rfl
    clear HC
    go_enter Tryd.func19, Tryd.ntmps19
    go_wp2
    go_ret
    exact ⟨by rw [HE.out]; rfl, Below.refl _ _⟩
end Go.Proofs.YtkmjpebfaodfaaaDoor
