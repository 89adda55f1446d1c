/-
  What spec.PowNat answers.
-/
import Derived.Test.YtnjfmjpbfidboaaDoorSpecMul
import Derived.Test.YtnjfmjpbfidboaaDoorStr
namespace Go.Proofs.YtnjfmjpbfidboaaDoor
open Go.RowKit
set_option linter.unusedVariables false

theorem l1In_any (n lo hi : Int) (w : World) :
    Calls Tryd.prog 44 #[.int .i64 n, .int .i64 lo, .int .i64 hi] w fun e w' => e = .returned (.bool (decide (lo ≤ n) && decide (n ≤ hi))) ∧ w' = w := by
  by_cases h : lo ≤ n
  · by_cases h' : n ≤ hi
    · rw [decide_eq_true h, decide_eq_true h']
      go_enter Tryd.func44, Tryd.ntmps44
      go_wp2
      go_ret
      exact ⟨rfl, rfl⟩
    · rw [decide_eq_true h, decide_eq_false h']
      go_enter Tryd.func44, Tryd.ntmps44
      go_wp2
      go_ret
      exact ⟨rfl, rfl⟩
  · rw [decide_eq_false h]
    go_enter Tryd.func44, Tryd.ntmps44
    go_wp2
    go_ret
    exact ⟨rfl, rfl⟩

/-- May a be raised to n? -/
def powOk (a : ByteArray) (n : Int) : Bool := goodB a.data.toList && (decide (0 ≤ n) && decide (n ≤ 2000))

theorem Tells.big {n m : Nat} {e : Ending} (h : Tells n e) (hn : ¬ n < 10 ^ 600) (hm : ¬ m < 10 ^ 600) : Tells m e := by
  obtain ⟨s, rfl, h1, h2⟩ := h
  have := h2 hn
  subst this
  exact ⟨⟨#[]⟩, by rw [decide_eq_false hn, decide_eq_false hm], fun h => absurd h hm, fun _ => rfl⟩

theorem pow_zero_of {A j N : Nat} (h : A ^ j = 0) (hj : j ≤ N) : A ^ N = 0 := by
  have hA : A = 0 ∧ j ≠ 0 := by
    by_cases hA : A = 0
    · refine ⟨hA, fun e => ?_⟩
      subst e; simp at h
    · have := Nat.pow_pos (n := j) (Nat.pos_of_ne_zero hA); omega
  obtain ⟨rfl, hj0⟩ := hA
  exact Nat.zero_pow (by omega)

theorem pow_big_of {A j N : Nat} (B : Nat) (hB : 1 < B) (h : ¬ A ^ j < B) (hj : j ≤ N) : ¬ A ^ N < B := by
  by_cases hA : A = 0
  · subst hA
    by_cases e : j = 0
    · subst e
      simp only [Nat.pow_zero] at h
      by_cases e' : N = 0
      · subst e'; simpa using h
      · omega
    · rw [Nat.zero_pow (by omega)] at h; omega
  · have := Nat.pow_le_pow_right (Nat.pos_of_ne_zero hA) hj
    omega

theorem one_lt_ten (k : Nat) (hk : k ≠ 0) : 1 < 10 ^ k := Nat.one_lt_pow hk (by decide)

theorem pow_tells {A j N : Nat} {e : Ending} (hT : Tells (A ^ j) e) (hj : j ≤ N) (h : j = N ∨ A ^ j = 0 ∨ ¬ A ^ j < 10 ^ 600 ∨ A = 1) : Tells (A ^ N) e := by
  rcases h with rfl | h | h | rfl
  · exact hT
  · rw [pow_zero_of h hj]; rw [h] at hT; exact hT
  · by_cases hA : ¬ A ^ N < 10 ^ 600
    · exact hT.big h hA
    · exact absurd (Decidable.not_not.1 hA) (pow_big_of _ (one_lt_ten 600 (by decide)) h hj)
  · simpa using hT

set_option maxHeartbeats 1000000 in
set_option maxRecDepth 100000 in
theorem specPow_yes (a : ByteArray) (N : Nat) (w : World) (hsa : a.size ≤ maxLen) (hN : (N : Int) ≤ 2000) (hg : goodB a.data.toList = true) :
    Calls Tryd.prog 21 #[.string a, .int .i64 (N : Int)] w fun e w' => Tells (dval a.data.toList ^ N) e ∧ Below w.heap.size w w' := by
  have HG : Hid (goodB a.data.toList = true) := hg
  have HA : Hid (canonB a.data.toList = true) := good_canon hg
  have hla : a.size ≤ 600 := by have := good_len hg; simpa using this
  clear hg
  go_enter Tryd.func21, Tryd.ntmps21
  go_wp2_with fail
  refine (specGood_any a _ hsa).mono ?_
  rintro e w' ⟨rfl, rfl⟩
  rw [HG.out]
  go_wp2_with fail
  refine (l1In_any (N : Int) 0 2000 _).mono ?_
  rintro e w' ⟨rfl, rfl⟩
  rw [decide_eq_true (by omega), decide_eq_true (by omega)]
  have HS0 : Hid (canonB ((⟨#[49]⟩ : ByteArray).data.toList) = true ∧ dval ((⟨#[49]⟩ : ByteArray).data.toList) = dval a.data.toList ^ 0) := by
    unfold Hid; rw [Nat.pow_zero]; exact one_canon
  go_wp2
  go_loopg [1, 6] N (fun gh n v wr => ∃ (j : Nat) (s : ByteArray), gh = N - j ∧ j ≤ N ∧ n = .int .i64 ((N - j : Nat) : Int) ∧ v = .string s ∧ s.size ≤ 1200 ∧ Hid (canonB s.data.toList = true ∧ dval s.data.toList = dval a.data.toList ^ j) ∧ Below w'.heap.size w' wr)
  case atStart => exact ⟨0, ⟨#[49]⟩, rfl, by omega, by simp, rfl, by decide, HS0, Below.refl _ _⟩
  case round =>
    obtain ⟨j, s, rfl, hj, rfl, rfl, hss, HS, hW⟩ := hrel
    have hWs := hW.size
    obtain ⟨r, hr⟩ : ∃ r, r = N - j := ⟨_, rfl⟩
    have HR : Hid (r = N - j) := hr
    rw [← hr]
    have hr2 : (r : Int) ≤ 2000 := by omega
    clear hr HS0
    -- the end of the loop: it tells what it has
    have fin : ∀ (hx : j = N ∨ dval a.data.toList ^ j = 0 ∨ ¬ dval a.data.toList ^ j < 10 ^ 600 ∨ dval a.data.toList = 1) (e : Ending), e = (if s.size ≤ 600 then .returned (.tuple #[.string s, .bool true]) else .returned (.tuple #[.string ⟨#[]⟩, .bool false])) → Tells (dval a.data.toList ^ N) e := fun hx e he => by
      have ht := known_tells HS.out.1 HS.out.2
      rw [← he] at ht
      exact pow_tells ht hj hx
    have FIN := hideT fin
    clear fin
    by_cases h0 : (0 : Int) < (r : Int)
    · by_cases hz : s = ⟨#[48]⟩
      · have HX : Hid (dval a.data.toList ^ j = 0) := by
          unfold Hid; rw [← HS.out.2, hz]; decide
        subst hz
        go_wp2
        go_ret2
        exact ⟨FIN.out (.inr (.inl HX.out)) _ (by rw [if_pos (by decide)]; rfl), hW⟩
      · have hz' : (s.toList == [48]) = false := str_ne (fun h => hz (WideShapes.bytes_inj h))
        clear hz
        by_cases hl : (s.size : Int) ≤ 600
        · by_cases h1 : a.data.toList = [49]
          · have HX : Hid (dval a.data.toList = 1) := by
              unfold Hid; rw [h1]; decide
            have h1' : (a.toList == [49]) = true := str_eq h1
            clear h1
            go_wp2_with fail
            refine (l1Known_any s wr (by unfold maxLen; omega)).mono ?_
            rintro e w2 ⟨he, rfl⟩
            have ht := FIN.out (.inr (.inr (.inr HX.out))) e he
            obtain ⟨s2, rfl, h1, h2⟩ := ht
            have HT := hideT (And.intro h1 h2)
            obtain ⟨bb, hbb⟩ : ∃ bb, bb = decide (dval a.data.toList ^ N < 10 ^ 600) := ⟨_, rfl⟩
            rw [← hbb]
            have HBB := hideT hbb
            clear hbb h1 h2 he
            go_wp2
            go_ret2
            exact ⟨⟨s2, by rw [← HBB.out]; rfl, HT.out.1, HT.out.2⟩, hW⟩
          · have h1' : (a.toList == [49]) = false := str_ne h1
            clear h1
            go_wp2_with fail
            refine (l1Mul_any s a wr (by omega) hla HS.out.1 HA.out).mono ?_
            rintro e w2 ⟨s2, rfl, hc2, hv2, hW2⟩
            have hs2 : s2.size ≤ 600 + 600 := canon_size (k := 600 + 600) (by omega) hc2 hv2 (mul_lt_pow 600 600 ((canon_len_le HS.out.1 600 (by omega)).1 (by simp; omega)) (good_lt HG.out))
            have HS2 : Hid (canonB s2.data.toList = true ∧ dval s2.data.toList = dval a.data.toList ^ (j + 1)) := ⟨hc2, by rw [hv2, HS.out.2, Nat.pow_succ]⟩
            clear hc2 hv2
            go_wp2
            go_roundg (N - (j + 1))
            case measure => have := HR.out; omega
            case rel => exact ⟨j + 1, s2, rfl, by have := HR.out; omega, by have := HR.out; go_num, rfl, hs2, HS2, hW.trans (hW2.mono hWs)⟩
        · have HX : Hid (¬ dval a.data.toList ^ j < 10 ^ 600) := by
            unfold Hid; rw [← HS.out.2]
            intro h
            have := (canon_len_le HS.out.1 600 (by omega)).2 h
            simp at this; omega
          go_wp2_with fail
          refine (l1Known_any s wr (by unfold maxLen; omega)).mono ?_
          rintro e w2 ⟨he, rfl⟩
          have ht := FIN.out (.inr (.inr (.inl HX.out))) e he
          obtain ⟨s2, rfl, h1, h2⟩ := ht
          have HT := hideT (And.intro h1 h2)
          obtain ⟨bb, hbb⟩ : ∃ bb, bb = decide (dval a.data.toList ^ N < 10 ^ 600) := ⟨_, rfl⟩
          rw [← hbb]
          have HBB := hideT hbb
          clear hbb h1 h2 he
          go_wp2
          go_ret2
          exact ⟨⟨s2, by rw [← HBB.out]; rfl, HT.out.1, HT.out.2⟩, hW⟩
    · have hjN : j = N := by have := HR.out; omega
      have HX : Hid (j = N) := hjN
      clear hjN
      go_wp2_with fail
      refine (l1Known_any s wr (by unfold maxLen; omega)).mono ?_
      rintro e w2 ⟨he, rfl⟩
      have ht := FIN.out (.inl HX.out) e he
      obtain ⟨s2, rfl, h1, h2⟩ := ht
      have HT := hideT (And.intro h1 h2)
      obtain ⟨bb, hbb⟩ : ∃ bb, bb = decide (dval a.data.toList ^ N < 10 ^ 600) := ⟨_, rfl⟩
      rw [← hbb]
      have HBB := hideT hbb
      clear hbb h1 h2 he
      go_wp2
      go_ret2
      exact ⟨⟨s2, by rw [← HBB.out]; rfl, HT.out.1, HT.out.2⟩, hW⟩

set_option maxHeartbeats 400000 in
theorem specPow_any (a : ByteArray) (n : Int) (w : World) (hsa : a.size ≤ maxLen) :
    Calls Tryd.prog 21 #[.string a, .int .i64 n] w fun e w' => Ans (powOk a n) (dval a.data.toList ^ n.toNat) e ∧ Below w.heap.size w w' := by
  cases hg : goodB a.data.toList with
  | true =>
    by_cases hn : 0 ≤ n ∧ n ≤ 2000
    · obtain ⟨N, rfl⟩ : ∃ N : Nat, n = (N : Int) := ⟨n.toNat, by omega⟩
      have hok : powOk a (N : Int) = true := by unfold powOk; rw [hg]; simp; omega
      rw [hok]
      refine (specPow_yes a N w hsa (by omega) hg).mono ?_
      rintro e w' ⟨h1, h2⟩
      exact ⟨.inl ⟨rfl, by simpa using h1⟩, h2⟩
    · have HG := hideT hg
      have hok : powOk a n = false := by unfold powOk; rw [hg]; simp; omega
      rw [hok]
      have hx : (decide (0 ≤ n) && decide (n ≤ 2000)) = false := by simp; omega
      have HX := hideT hx
      clear hg hok hx hn
      go_enter Tryd.func21, Tryd.ntmps21
      go_wp2_with fail
      refine (specGood_any a _ hsa).mono ?_
      rintro e w' ⟨rfl, rfl⟩
      rw [HG.out]
      go_wp2_with fail
      refine (l1In_any n 0 2000 _).mono ?_
      rintro e w' ⟨rfl, rfl⟩
      rw [HX.out]
      go_wp2
      go_ret2
      exact ⟨.inr ⟨rfl, rfl⟩, Below.refl _ _⟩
  | false =>
    have HG := hideT hg
    have hok : powOk a n = false := by unfold powOk; rw [hg]; rfl
    rw [hok]
    clear hg hok
    go_enter Tryd.func21, Tryd.ntmps21
    go_wp2_with fail
    refine (specGood_any a _ hsa).mono ?_
    rintro e w' ⟨rfl, rfl⟩
    rw [HG.out]
    go_wp2
    go_ret2
    exact ⟨.inr ⟨rfl, rfl⟩, Below.refl _ _⟩
end Go.Proofs.YtnjfmjpbfidboaaDoor
