/-
  What lbTwo, lbBits, lbDiv and lbOf of spec answer.
-/
import Derived.Test.YtoiegaggekgmjaaSpecRoot
import Derived.Test.YtoiegaggekgmjaaRealMath
import Derived.Test.YtoiegaggekgmjaaImplReal
import Derived.Test.YtoiegaggekgmjaaImplNear
namespace Go.Proofs.Ytoiegaggekgmjaa
open Go.RowKit
set_option linter.unusedVariables false

theorem two_lt_tenS (j e : Nat) (hj : j ≤ 2 * e) (he : e ≠ 0) : 2 ^ j < 10 ^ e := by
  have h1 : 2 ^ j ≤ 2 ^ (2 * e) := Nat.pow_le_pow_right (by decide) hj
  rw [Nat.pow_mul] at h1
  exact Nat.lt_of_le_of_lt h1 (Nat.pow_lt_pow_left (by decide) he)
theorem Tx.two {s : ByteArray} {j : Nat} (h : Tx s (2 ^ j)) (hj : j ≤ 1200) : s.size ≤ 600 := h.size (two_lt_tenS j 600 (by omega) (by decide)) (by omega)

theorem Tx.lt' {s : ByteArray} {n k : Nat} (h : Tx s n) (hk : s.size ≤ k) : n < 10 ^ k := by
  rw [← h.2]; exact Nat.lt_of_lt_of_le (dval_lt _ (canon_all h.1)) (Nat.pow_le_pow_right (by decide) (by simpa using hk))
theorem ten_le_two (e j : Nat) (h : 4 * e ≤ j) : 10 ^ e ≤ 2 ^ j := by
  have h1 : 10 ^ e ≤ (2 ^ 4) ^ e := Nat.pow_le_pow_left (by decide) e
  rw [← Nat.pow_mul] at h1
  exact Nat.le_trans h1 (Nat.pow_le_pow_right (by decide) h)
/-- How many bits there are. -/
theorem cnt_bits {n j : Nat} (h : Cnt 2 n j) (h0 : n ≠ 0) : n < 2 ^ j ∧ ∃ i, j = i + 1 ∧ 2 ^ i ≤ n := by
  obtain ⟨h1, h2, h3⟩ := h
  refine ⟨?_, j - 1, by omega, ?_⟩
  · rcases Nat.div_eq_zero_iff.1 h2 with h4 | h4
    · have := Nat.two_pow_pos j; omega
    · exact h4
  · by_cases hj : j = 1
    · subst hj; simp; omega
    · have h4 := h3 (j - 1) (by omega) (by omega)
      rcases Nat.lt_or_ge n (2 ^ (j - 1)) with h5 | h5
      · exact absurd (Nat.div_eq_of_lt h5) h4
      · exact h5

set_option maxHeartbeats 2000000 in
set_option maxRecDepth 100000 in
theorem twoT (N : Nat) (z : Int) (w : World) (hz : z = (N : Int)) (hb : z ≤ 1200) :
    Calls Try.prog 80 #[.int .i64 z] w fun e w' => ∃ s : ByteArray, e = .returned (.string s) ∧ Tx s (2 ^ N) ∧ Below w.heap.size w w' := by
  subst hz
  have H1 : Hid (Tx ⟨#[49]⟩ 1) := ⟨by decide, by decide⟩
  have H30 : Hid (Tx ⟨#[49, 48, 55, 51, 55, 52, 49, 56, 50, 52]⟩ 1073741824) := ⟨by decide, by decide⟩
  go_enter Try.func80, Try.ntmps80
  go_wp2
  go_loopg [0, 3] N (fun g v0 v3 wr => ∃ so : ByteArray, g ≤ N ∧ v0 = .int .i64 (g : Int) ∧ v3 = .string so ∧ Hid (Tx so (2 ^ (N - g))) ∧ Hid (Below w.heap.size w wr))
  case atStart => exact ⟨_, Nat.le_refl _, rfl, rfl, by unfold Hid; rw [Nat.sub_self]; exact H1.out, Below.refl _ _⟩
  case round =>
    obtain ⟨so, hg, rfl, rfl, HT, HW⟩ := hrel
    by_cases h : (30 : Int) ≤ (gk : Int)
    · go_wp2_with fail
      refine (mulT wr HT.out H30.out (HT.out.two (by omega)) (by decide)).mono ?_
      rintro e w1 ⟨s1, rfl, hT1, hW1⟩
      have HT1 : Hid (Tx s1 (2 ^ (N - (gk - 30)))) := by
        unfold Hid
        have e1 : 2 ^ (N - gk) * 1073741824 = 2 ^ (N - (gk - 30)) := by
          rw [show (1073741824 : Nat) = 2 ^ 30 by decide, ← Nat.pow_add]; congr 1; omega
        rw [← e1]; exact hT1
      have HW1 : Hid (Below w.heap.size w w1) := HW.out.trans (hW1.mono HW.out.size)
      clear hT1 hW1
      go_wp2
      go_roundg (gk - 30)
      case measure => omega
      case rel => exact ⟨s1, by omega, by go_num, rfl, HT1, HW1⟩
    · go_wp2_with fail
      obtain ⟨G, rfl⟩ : ∃ G, gk = G := ⟨_, rfl⟩
      go_loopg [0, 3] gk (fun g v0 v3 wi => ∃ so : ByteArray, g ≤ N ∧ v0 = .int .i64 (g : Int) ∧ v3 = .string so ∧ Hid (Tx so (2 ^ (N - g))) ∧ Hid (Below w.heap.size w wi))
      case atStart => exact ⟨so, hg, rfl, rfl, HT, HW⟩
      case round =>
        clear HT HW hg h
        obtain ⟨so, hg, rfl, rfl, HT, HW⟩ := hrel
        by_cases h : 0 < (gk : Int)
        · go_wp2_with fail
          refine (addT wr HT.out HT.out (by have := HT.out.two (by omega); omega) (by have := HT.out.two (by omega); omega)).mono ?_
          rintro e w1 ⟨s1, rfl, hT1, hW1⟩
          have HT1 : Hid (Tx s1 (2 ^ (N - (gk - 1)))) := by
            unfold Hid
            have e1 : 2 ^ (N - gk) + 2 ^ (N - gk) = 2 ^ (N - (gk - 1)) := by
              rw [← Nat.two_mul, Nat.mul_comm, ← Nat.pow_succ]; congr 1; omega
            rw [← e1]; exact hT1
          have HW1 : Hid (Below w.heap.size w w1) := HW.out.trans (hW1.mono HW.out.size)
          clear hT1 hW1
          go_wp2
          go_roundg (gk - 1)
          case measure => omega
          case rel => exact ⟨s1, by omega, by go_num, rfl, HT1, HW1⟩
        · have h0 : gk = 0 := by omega
          subst h0
          go_wp2
          go_ret
          exact ⟨_, rfl, HT.out, HW.out⟩

set_option maxHeartbeats 1000000 in
theorem bitsT {s : ByteArray} {n : Nat} (w : World) (h : Tx s n) (hs : s.size ≤ 600) :
    Calls Try.prog 52 #[.string s] w fun e w' => (∃ (b : Int) (B : Nat), e = .returned (.int .i64 b) ∧ b = (B : Int) ∧ B ≤ 2400 ∧ n < 2 ^ B ∧ (B = 0 ∨ ∃ B', B = B' + 1 ∧ 2 ^ B' ≤ n)) ∧ Below w.heap.size w w' := by
  have HT := hideT' h
  by_cases h0 : n = 0
  · have hb := h.bytes [48] (by decide)
    rw [decide_eq_true (by rw [h0]; decide)] at hb
    subst h0
    clear h
    go_enter Try.func52, Try.ntmps52
    go_wp2
    go_ret
    exact ⟨⟨0, 0, rfl, rfl, by omega, by decide, .inl rfl⟩, Below.refl _ _⟩
  · have hb := h.bytes [48] (by decide)
    rw [decide_eq_false (by intro e; exact h0 (by rw [e]; decide))] at hb
    have HL := hideT' (l1ToRadix_any s 2 2 w hs h.1 rfl (by omega) (by omega))
    rw [h.2] at HL
    have H0 := hideT' h0
    have hn := h.lt' hs
    clear h h0
    go_enter Try.func52, Try.ntmps52
    go_wp2_with fail
    refine HL.out.mono ?_
    rintro e w1 ⟨t, rfl, hR, hW1⟩
    have HR : Hid (∃ (b : Int) (B : Nat), (t.size : Int) = b ∧ b = (B : Int) ∧ B ≤ 2400 ∧ n < 2 ^ B ∧ (B = 0 ∨ ∃ B', B = B' + 1 ∧ 2 ^ B' ≤ n)) := by
      obtain ⟨J, hJ, hJt⟩ := hR
      have hl : t.size = J := by
        have := congrArg List.length hJt
        rw [List.length_reverse, digs_len] at this
        simpa using this
      obtain ⟨h1, i, h2, h3⟩ := cnt_bits hJ H0.out
      refine ⟨_, J, rfl, by omega, ?_, h1, .inr ⟨i, h2, h3⟩⟩
      have h4 : 2 ^ i < 2 ^ 2400 := by
        have h5 : 10 ^ 600 ≤ 2 ^ 2400 := ten_le_two 600 2400 (by omega)
        exact Nat.lt_of_le_of_lt h3 (Nat.lt_of_lt_of_le hn h5)
      have := (Nat.pow_lt_pow_iff_right (by decide : 1 < 2)).1 h4
      omega
    obtain ⟨b, B, hb1, hb2⟩ := HR.out
    have HB := hideT' (And.intro hb1 hb2)
    clear hR HR hb1 hb2
    go_wp2
    go_ret
    exact ⟨⟨_, B, rfl, by have := HB.out; omega, HB.out.2.2.1, HB.out.2.2.2.1, HB.out.2.2.2.2⟩, hW1⟩
set_option maxHeartbeats 1000000 in
set_option maxRecDepth 100000 in
theorem laSmallR_any (s : ByteArray) (w : World) (hs : s.size ≤ 17) (hd : s.data.toList.all isDig = true) :
    Calls Try.prog 54 #[.string s] w fun e w' => (∃ x : Int, e = .returned (.int .i64 x) ∧ Hid (x = (dval s.data.toList : Int))) ∧ w' = w := by
  have HD := hideT' hd
  clear hd
  go_enter Try.func54, Try.ntmps54
  go_wp2
  go_loopg [3, 4] s.size (fun g vn vi wr => ∃ (j : Nat) (n : Int), g = s.size - j ∧ j ≤ s.size ∧ vn = .int .i64 n ∧ vi = .int .i64 (j : Int) ∧ 0 ≤ n ∧ n ≤ 100000000000000000 ∧ Hid (n = (dval (s.data.toList.take j) : Int)) ∧ wr = w)
  case atStart => exact ⟨0, 0, rfl, Nat.zero_le _, rfl, rfl, by omega, by omega, rfl, rfl⟩
  case round =>
    obtain ⟨j, n, hg, hj, rfl, rfl, hn0, hn1, HN, rfl⟩ := hrel
    by_cases hlt : (j : Int) < (s.size : Int)
    · have hjl : j < s.size := by omega
      have hdj : isDig s[j] = true := List.all_eq_true.1 HD.out _ (by have := getN j hjl; exact List.mem_of_getElem? this)
      obtain ⟨hb0, hb1⟩ := isDig_bd hdj
      obtain ⟨c, hc⟩ : ∃ c : Int, c = (s[j].toNat : Int) := ⟨_, rfl⟩
      have hc0 : 48 ≤ c ∧ c ≤ 57 := by omega
      obtain ⟨hc0, hc1⟩ := hc0
      obtain ⟨y, hy⟩ : ∃ y, 10 * n = y := ⟨_, rfl⟩
      have hlow : Hid (n ≤ 9999999999999999) := by
        have h1 := dval_lt (s.data.toList.take j) (by rw [List.all_eq_true]; intro x hx; exact List.all_eq_true.1 HD.out x (List.mem_of_mem_take hx))
        have h2 : (s.data.toList.take j).length ≤ 16 := by rw [List.length_take]; omega
        have h3 : 10 ^ (s.data.toList.take j).length ≤ 10 ^ 16 := Nat.pow_le_pow_right (by decide) h2
        have h4 : (10 : Nat) ^ 16 = 10000000000000000 := by decide
        have := HN.out
        unfold Hid; omega
      have hlow' := hlow.out
      have hwy : IntKind.i64.wrap y = y := by rw [IntKind.wrap_i64]; omega
      have hw8 : IntKind.u8.wrap (c - 48) = c - 48 := by
        have : IntKind.u8.wrap (c - 48) = (c - 48) % 256 := by simp [IntKind.wrap, IntKind.signed, IntKind.bits]
        rw [this]; omega
      have hwc : IntKind.i64.wrap (c - 48) = c - 48 := by rw [IntKind.wrap_i64]; omega
      have hwz : IntKind.i64.wrap (y + (c - 48)) = y + (c - 48) := by rw [IntKind.wrap_i64]; omega
      have HV : Hid (y + (c - 48) = (dval (s.data.toList.take (j + 1)) : Int)) := by
        unfold Hid
        have hl : s.data.toList.length = s.size := by simp
        rw [List.take_succ_eq_append_getElem (by omega), dval_snoc]
        have e1 : s.data.toList[j]'(by omega) = s[j] := rfl
        rw [e1]
        have := HN.out
        unfold dv
        omega
      have hyb : 0 ≤ y ∧ y ≤ 99999999999999990 := by omega
      obtain ⟨hyb0, hyb1⟩ := hyb
      go_wp2
      go_roundg (s.size - (j + 1))
      case measure => omega
      case rel => exact ⟨j + 1, y + (c - 48), rfl, by omega, by first | rfl | (congr 1; omega), by go_num, by omega, by omega, HV, rfl⟩
    · have HE : Hid (n = (dval s.data.toList : Int)) := by
        unfold Hid
        rw [HN.out, List.take_of_length_le (by simp; omega)]
      go_wp2
      go_ret
      exact ⟨⟨n, rfl, HE⟩, rfl⟩


theorem ten_mulS {x y i j : Nat} (h : x < 10 ^ i) (g : y < 10 ^ j) : x * y < 10 ^ (i + j) := by
  rw [Nat.pow_add]
  have h1 : x * y ≤ x * 10 ^ j := Nat.mul_le_mul_left _ (Nat.le_of_lt g)
  have h2 : x * 10 ^ j < 10 ^ i * 10 ^ j := Nat.mul_lt_mul_of_pos_right h (Nat.pow_pos (by decide))
  omega
theorem ten_two (e j : Nat) (h : 10 * e ≤ j) : 10 ^ (3 * e) ≤ 2 ^ j := by
  have h1 : (10 ^ 3) ^ e ≤ (2 ^ 10) ^ e := Nat.pow_le_pow_left (by decide) e
  rw [← Nat.pow_mul, ← Nat.pow_mul] at h1
  exact Nat.le_trans h1 (Nat.pow_le_pow_right (by decide) h)
theorem qk_le (N D k : Nat) : qk N D k ≤ N * 2 ^ 150 := Nat.div_le_self _ _
theorem mul_pow_lt {N a b : Nat} (h : N < 2 ^ a) : N * 2 ^ b < 2 ^ (a + b) := by rw [Nat.pow_add]; exact Nat.mul_lt_mul_of_pos_right h (Nat.two_pow_pos _)
theorem qk_lt_ten {N D k a e : Nat} (h : N < 2 ^ a) (he : a + 150 ≤ 2 * e) (h0 : e ≠ 0) : qk N D k < 10 ^ e :=
  Nat.lt_of_le_of_lt (qk_le N D k) (Nat.lt_trans (mul_pow_lt (b := 150) h) (two_lt_tenS (a + 150) e he h0))
theorem qk_lt {N D k : Nat} (h : N < 2 ^ 1000) : qk N D k < 10 ^ 600 := qk_lt_ten (a := 1000) (e := 600) h (by omega) (by decide)
theorem Tx.prod {s : ByteArray} {n m i j k : Nat} (h : Tx s (n * m)) (h1 : n < 10 ^ i) (h2 : m < 10 ^ j) (hk : i + j = k) (h0 : 1 ≤ k) : s.size ≤ k := by
  subst hk
  exact h.size (ten_mulS h1 h2) h0
/-- A quotient of a divided by b, what is left and the divisor, for the power of 2 at k. -/
def CutT (N D k : Nat) (q r b : ByteArray) : Prop := Tx q (qk N D k) ∧ q.size ≤ 600 ∧ ∃ R B, Tx r R ∧ Tx b B ∧ r.size ≤ 2000 ∧ b.size ≤ 2000 ∧ ck N D k = cmpN (2 * R) B

set_option maxHeartbeats 2000000 in
set_option maxRecDepth 100000 in
theorem lbDivT {a b : ByteArray} {N D K : Nat} (z : Int) (w : World) (ha : Tx a N) (hb : Tx b D) (hsa : a.size ≤ 600) (hsb : b.size ≤ 600) (hN : N < 2 ^ 1000) (h0 : D ≠ 0) (hz : z + 150 = (K : Int)) (hz1 : z ≤ 1100) :
    Calls Try.prog 53 #[.string a, .string b, .int .i64 z] w fun e w' => ∃ q r y : ByteArray, e = .returned (.tuple #[.string q, .string r, .string y]) ∧ CutT N D K q r y ∧ Below w.heap.size w w' := by
  have HQ : Hid (∀ q, Tx q (qk N D K) → q.size ≤ 600) := fun q h => h.size (qk_lt hN) (by omega)
  by_cases hneg : 0 ≤ z
  · obtain ⟨J, rfl⟩ := Int.eq_ofNat_of_zero_le hneg
    have hK : K = 150 + J := by omega
    have HC : Hid (qk N D K = N / (D * 2 ^ J) ∧ ck N D K = cmpN (2 * (N % (D * 2 ^ J))) (D * 2 ^ J)) := by rw [hK]; exact cut_high N D J
    have HA := hideT' (And.intro ha hb)
    have H0 : Hid (D * 2 ^ J ≠ 0) := Nat.mul_ne_zero h0 (by have := Nat.two_pow_pos J; omega)
    clear ha hb hN h0 hK hz
    go_enter Try.func53, Try.ntmps53
    go_wp2_with fail
    refine (twoT J (J : Int) w rfl (by omega)).mono ?_
    rintro e w1 ⟨s1, rfl, hT1, hW1⟩
    have hs1 := hT1.two (by omega)
    have HT1 := hideT' hT1
    clear hT1
    go_wp2_with fail
    refine (mulT w1 HA.out.2 HT1.out hsb hs1).mono ?_
    rintro e w2 ⟨s2, rfl, hT2, hW2⟩
    have hs2 : s2.size ≤ 1200 := hT2.prod (HA.out.2.lt' hsb) (HT1.out.lt' hs1) rfl (by omega)
    have HT2 := hideT' hT2
    have hB2 : Below w.heap.size w w2 := hW1.trans (hW2.mono hW1.size)
    clear hT2 hW1 hW2
    go_wp2_with fail
    refine (divT w2 HA.out.1 HT2.out (by omega) (by omega) H0.out).mono ?_
    rintro e w3 ⟨q, r, rfl, hq, hr, hW3⟩
    have HR : Hid (CutT N D K q r s2) := by
      have hq' : Tx q (qk N D K) := by rw [HC.out.1]; exact hq
      have hlt := Nat.mod_lt N (Nat.pos_of_ne_zero H0.out)
      exact ⟨hq', HQ.out q hq', _, _, hr, HT2.out, by have := hr.size (Nat.lt_trans hlt (HT2.out.lt' hs2)) (by omega); omega, by omega, HC.out.2⟩
    have hB3 : Below w.heap.size w w3 := hB2.trans (hW3.mono hB2.size)
    clear hq hr hW3 hB2
    go_wp2
    go_ret3
    exact ⟨_, _, _, rfl, HR.out, hB3⟩
  · obtain ⟨J, hJ⟩ : ∃ J : Nat, -z = (J : Int) := ⟨(-z).toNat, by omega⟩
    have hK : K = 150 - J := by omega
    have hJ150 : J ≤ 150 := by omega
    have HC : Hid (qk N D K = N * 2 ^ J / D ∧ ck N D K = cmpN (2 * (N * 2 ^ J % D)) D) := by rw [hK]; exact cut_low N D J hJ150
    have HA := hideT' (And.intro ha hb)
    have H0 := hideT' h0
    have HJ := hideT' hJ
    clear ha hb hN h0 hK hJ
    go_enter Try.func53, Try.ntmps53
    go_wp2_with fail
    refine (twoT J (-z) w HJ.out (by omega)).mono ?_
    rintro e w1 ⟨s1, rfl, hT1, hW1⟩
    have hs1 := hT1.two (by omega)
    have HT1 := hideT' hT1
    clear hT1
    go_wp2_with fail
    refine (mulT w1 HA.out.1 HT1.out hsa hs1).mono ?_
    rintro e w2 ⟨s2, rfl, hT2, hW2⟩
    have hs2 : s2.size ≤ 1200 := hT2.prod (HA.out.1.lt' hsa) (HT1.out.lt' hs1) rfl (by omega)
    have HT2 := hideT' hT2
    have hB2 : Below w.heap.size w w2 := hW1.trans (hW2.mono hW1.size)
    clear hT2 hW1 hW2
    go_wp2_with fail
    refine (divT w2 HT2.out HA.out.2 (by omega) (by omega) H0.out).mono ?_
    rintro e w3 ⟨q, r, rfl, hq, hr, hW3⟩
    have HR : Hid (CutT N D K q r b) := by
      have hq' : Tx q (qk N D K) := by rw [HC.out.1]; exact hq
      have hlt := Nat.mod_lt (N * 2 ^ J) (Nat.pos_of_ne_zero H0.out)
      exact ⟨hq', HQ.out q hq', _, _, hr, HA.out.2, by have := hr.size (Nat.lt_trans hlt (HA.out.2.lt' hsb)) (by omega); omega, by omega, HC.out.2⟩
    have hB3 : Below w.heap.size w w3 := hB2.trans (hW3.mono hB2.size)
    clear hq hr hW3 hB2
    go_wp2
    go_ret3
    exact ⟨_, _, _, rfl, HR.out, hB3⟩
end Go.Proofs.Ytoiegaggekgmjaa
