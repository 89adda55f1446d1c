/-
  The texts SpecNear, SpecOf, one behind the other.
-/
import Derived.Test.YtoiegaggekgmjaaDoorSpecRoot
import Derived.Test.YtoiegaggekgmjaaDoorRealMath
import Derived.Test.YtoiegaggekgmjaaDoorImplReal
import Derived.Test.YtoiegaggekgmjaaDoorPkImplTwo2

/-
  What lbTwo, lbBits, lbDiv and lbOf of spec answer.
-/
namespace Go.Proofs.YtoiegaggekgmjaaDoor
open Go.RowKit
set_option linter.unusedVariables false

theorem two_lt_tenS (j e : Nat) (hj : j ≤ 2 * e) (he : e ≠ 0) : 2 ^ j < 10 ^ e := by
  have h1 : 2 ^ j ≤ 2 ^ (2 * e) := Nat.pow_le_pow_right (by decide) hj
  rw [Nat.pow_mul] at h1
  exact Nat.lt_of_le_of_lt h1 (Nat.pow_lt_pow_left (by decide) he)
theorem Tx.two {s : ByteArray} {j : Nat} (h : Tx s (2 ^ j)) (hj : j ≤ 1200) : s.size ≤ 600 := h.size (two_lt_tenS j 600 (by omega) (by decide)) (by omega)

theorem Tx.lt' {s : ByteArray} {n k : Nat} (h : Tx s n) (hk : s.size ≤ k) : n < 10 ^ k := by
  rw [← h.2]; exact Nat.lt_of_lt_of_le (dval_lt _ (canon_all h.1)) (Nat.pow_le_pow_right (by decide) (by simpa using hk))
theorem ten_le_two (e j : Nat) (h : 4 * e ≤ j) : 10 ^ e ≤ 2 ^ j := by
  have h1 : 10 ^ e ≤ (2 ^ 4) ^ e := Nat.pow_le_pow_left (by decide) e
  rw [← Nat.pow_mul] at h1
  exact Nat.le_trans h1 (Nat.pow_le_pow_right (by decide) h)
/-- How many bits there are. -/
theorem cnt_bits {n j : Nat} (h : Cnt 2 n j) (h0 : n ≠ 0) : n < 2 ^ j ∧ ∃ i, j = i + 1 ∧ 2 ^ i ≤ n := by
  obtain ⟨h1, h2, h3⟩ := h
  refine ⟨?_, j - 1, by omega, ?_⟩
  · rcases Nat.div_eq_zero_iff.1 h2 with h4 | h4
    · have := Nat.two_pow_pos j; omega
    · exact h4
  · by_cases hj : j = 1
    · subst hj; simp; omega
    · have h4 := h3 (j - 1) (by omega) (by omega)
      rcases Nat.lt_or_ge n (2 ^ (j - 1)) with h5 | h5
      · exact absurd (Nat.div_eq_of_lt h5) h4
      · exact h5

set_option maxHeartbeats 2000000 in
set_option maxRecDepth 100000 in
theorem twoT (N : Nat) (z : Int) (w : World) (hz : z = (N : Int)) (hb : z ≤ 1200) :
    Calls Tryd.prog 56 #[.int .i64 z] w fun e w' => ∃ s : ByteArray, e = .returned (.string s) ∧ Tx s (2 ^ N) ∧ Below w.heap.size w w' := by
  subst hz
  have H1 : Hid (Tx ⟨#[49]⟩ 1) := ⟨by decide, by decide⟩
  have H30 : Hid (Tx ⟨#[49, 48, 55, 51, 55, 52, 49, 56, 50, 52]⟩ 1073741824) := ⟨by decide, by decide⟩
  go_enter Tryd.func56, Tryd.ntmps56
  go_wp2
  go_loopg [0, 3] N (fun g v0 v3 wr => ∃ so : ByteArray, g ≤ N ∧ v0 = .int .i64 (g : Int) ∧ v3 = .string so ∧ Hid (Tx so (2 ^ (N - g))) ∧ Hid (Below w.heap.size w wr))
  case atStart => exact ⟨_, Nat.le_refl _, rfl, rfl, by unfold Hid; rw [Nat.sub_self]; exact H1.out, Below.refl _ _⟩
  case round =>
    obtain ⟨so, hg, rfl, rfl, HT, HW⟩ := hrel
    by_cases h : (30 : Int) ≤ (gk : Int)
    · go_wp2_with fail
      refine (mulT wr HT.out H30.out (HT.out.two (by omega)) (by decide)).mono ?_
      rintro e w1 ⟨s1, rfl, hT1, hW1⟩
      have HT1 : Hid (Tx s1 (2 ^ (N - (gk - 30)))) := by
        unfold Hid
        have e1 : 2 ^ (N - gk) * 1073741824 = 2 ^ (N - (gk - 30)) := by
          rw [show (1073741824 : Nat) = 2 ^ 30 by decide, ← Nat.pow_add]; congr 1; omega
        rw [← e1]; exact hT1
      have HW1 : Hid (Below w.heap.size w w1) := HW.out.trans (hW1.mono HW.out.size)
      clear hT1 hW1
      go_wp2
      go_roundg (gk - 30)
      case measure => omega
      case rel => exact ⟨s1, by omega, by go_num, rfl, HT1, HW1⟩
    · go_wp2_with fail
      obtain ⟨G, rfl⟩ : ∃ G, gk = G := ⟨_, rfl⟩
      go_loopg [0, 3] gk (fun g v0 v3 wi => ∃ so : ByteArray, g ≤ N ∧ v0 = .int .i64 (g : Int) ∧ v3 = .string so ∧ Hid (Tx so (2 ^ (N - g))) ∧ Hid (Below w.heap.size w wi))
      case atStart => exact ⟨so, hg, rfl, rfl, HT, HW⟩
      case round =>
        clear HT HW hg h
        obtain ⟨so, hg, rfl, rfl, HT, HW⟩ := hrel
        by_cases h : 0 < (gk : Int)
        · go_wp2_with fail
          refine (addT wr HT.out HT.out (by have := HT.out.two (by omega); omega) (by have := HT.out.two (by omega); omega)).mono ?_
          rintro e w1 ⟨s1, rfl, hT1, hW1⟩
          have HT1 : Hid (Tx s1 (2 ^ (N - (gk - 1)))) := by
            unfold Hid
            have e1 : 2 ^ (N - gk) + 2 ^ (N - gk) = 2 ^ (N - (gk - 1)) := by
              rw [← Nat.two_mul, Nat.mul_comm, ← Nat.pow_succ]; congr 1; omega
            rw [← e1]; exact hT1
          have HW1 : Hid (Below w.heap.size w w1) := HW.out.trans (hW1.mono HW.out.size)
          clear hT1 hW1
          go_wp2
          go_roundg (gk - 1)
          case measure => omega
          case rel => exact ⟨s1, by omega, by go_num, rfl, HT1, HW1⟩
        · have h0 : gk = 0 := by omega
          subst h0
          go_wp2
          go_ret
          exact ⟨_, rfl, HT.out, HW.out⟩

set_option maxHeartbeats 1000000 in
theorem bitsT {s : ByteArray} {n : Nat} (w : World) (h : Tx s n) (hs : s.size ≤ 600) :
    Calls Tryd.prog 35 #[.string s] w fun e w' => (∃ (b : Int) (B : Nat), e = .returned (.int .i64 b) ∧ b = (B : Int) ∧ B ≤ 2400 ∧ n < 2 ^ B ∧ (B = 0 ∨ ∃ B', B = B' + 1 ∧ 2 ^ B' ≤ n)) ∧ Below w.heap.size w w' := by
  have HT := hideT' h
  by_cases h0 : n = 0
  · have hb := h.bytes [48] (by decide)
    rw [decide_eq_true (by rw [h0]; decide)] at hb
    subst h0
    clear h
    go_enter Tryd.func35, Tryd.ntmps35
    go_wp2
    go_ret
    exact ⟨⟨0, 0, rfl, rfl, by omega, by decide, .inl rfl⟩, Below.refl _ _⟩
  · have hb := h.bytes [48] (by decide)
    rw [decide_eq_false (by intro e; exact h0 (by rw [e]; decide))] at hb
    have HL := hideT' (l1ToRadix_any s 2 2 w hs h.1 rfl (by omega) (by omega))
    rw [h.2] at HL
    have H0 := hideT' h0
    have hn := h.lt' hs
    clear h h0
    go_enter Tryd.func35, Tryd.ntmps35
    go_wp2_with fail
    refine HL.out.mono ?_
    rintro e w1 ⟨t, rfl, hR, hW1⟩
    have HR : Hid (∃ (b : Int) (B : Nat), (t.size : Int) = b ∧ b = (B : Int) ∧ B ≤ 2400 ∧ n < 2 ^ B ∧ (B = 0 ∨ ∃ B', B = B' + 1 ∧ 2 ^ B' ≤ n)) := by
      obtain ⟨J, hJ, hJt⟩ := hR
      have hl : t.size = J := by
        have := congrArg List.length hJt
        rw [List.length_reverse, digs_len] at this
        simpa using this
      obtain ⟨h1, i, h2, h3⟩ := cnt_bits hJ H0.out
      refine ⟨_, J, rfl, by omega, ?_, h1, .inr ⟨i, h2, h3⟩⟩
      have h4 : 2 ^ i < 2 ^ 2400 := by
        have h5 : 10 ^ 600 ≤ 2 ^ 2400 := ten_le_two 600 2400 (by omega)
        exact Nat.lt_of_le_of_lt h3 (Nat.lt_of_lt_of_le hn h5)
      have := (Nat.pow_lt_pow_iff_right (by decide : 1 < 2)).1 h4
      omega
    obtain ⟨b, B, hb1, hb2⟩ := HR.out
    have HB := hideT' (And.intro hb1 hb2)
    clear hR HR hb1 hb2
    go_wp2
    go_ret
    exact ⟨⟨_, B, rfl, by have := HB.out; omega, HB.out.2.2.1, HB.out.2.2.2.1, HB.out.2.2.2.2⟩, hW1⟩
set_option maxHeartbeats 1000000 in
set_option maxRecDepth 100000 in
theorem laSmallR_any (s : ByteArray) (w : World) (hs : s.size ≤ 17) (hd : s.data.toList.all isDig = true) :
    Calls Tryd.prog 15 #[.string s] w fun e w' => (∃ x : Int, e = .returned (.int .i64 x) ∧ Hid (x = (dval s.data.toList : Int))) ∧ w' = w := by
  have HD := hideT' hd
  clear hd
  go_enter Tryd.func15, Tryd.ntmps15
  go_wp2
  go_loopg [3, 4] s.size (fun g vn vi wr => ∃ (j : Nat) (n : Int), g = s.size - j ∧ j ≤ s.size ∧ vn = .int .i64 n ∧ vi = .int .i64 (j : Int) ∧ 0 ≤ n ∧ n ≤ 100000000000000000 ∧ Hid (n = (dval (s.data.toList.take j) : Int)) ∧ wr = w)
  case atStart => exact ⟨0, 0, rfl, Nat.zero_le _, rfl, rfl, by omega, by omega, rfl, rfl⟩
  case round =>
    obtain ⟨j, n, hg, hj, rfl, rfl, hn0, hn1, HN, rfl⟩ := hrel
    by_cases hlt : (j : Int) < (s.size : Int)
    · have hjl : j < s.size := by omega
      have hdj : isDig s[j] = true := List.all_eq_true.1 HD.out _ (by have := getN j hjl; exact List.mem_of_getElem? this)
      obtain ⟨hb0, hb1⟩ := isDig_bd hdj
      obtain ⟨c, hc⟩ : ∃ c : Int, c = (s[j].toNat : Int) := ⟨_, rfl⟩
      have hc0 : 48 ≤ c ∧ c ≤ 57 := by omega
      obtain ⟨hc0, hc1⟩ := hc0
      obtain ⟨y, hy⟩ : ∃ y, 10 * n = y := ⟨_, rfl⟩
      have hlow : Hid (n ≤ 9999999999999999) := by
        have h1 := dval_lt (s.data.toList.take j) (by rw [List.all_eq_true]; intro x hx; exact List.all_eq_true.1 HD.out x (List.mem_of_mem_take hx))
        have h2 : (s.data.toList.take j).length ≤ 16 := by rw [List.length_take]; omega
        have h3 : 10 ^ (s.data.toList.take j).length ≤ 10 ^ 16 := Nat.pow_le_pow_right (by decide) h2
        have h4 : (10 : Nat) ^ 16 = 10000000000000000 := by decide
        have := HN.out
        unfold Hid; omega
      have hlow' := hlow.out
      have hwy : IntKind.i64.wrap y = y := by rw [IntKind.wrap_i64]; omega
      have hw8 : IntKind.u8.wrap (c - 48) = c - 48 := by
        have : IntKind.u8.wrap (c - 48) = (c - 48) % 256 := by simp [IntKind.wrap, IntKind.signed, IntKind.bits]
        rw [this]; omega
      have hwc : IntKind.i64.wrap (c - 48) = c - 48 := by rw [IntKind.wrap_i64]; omega
      have hwz : IntKind.i64.wrap (y + (c - 48)) = y + (c - 48) := by rw [IntKind.wrap_i64]; omega
      have HV : Hid (y + (c - 48) = (dval (s.data.toList.take (j + 1)) : Int)) := by
        unfold Hid
        have hl : s.data.toList.length = s.size := by simp
        rw [List.take_succ_eq_append_getElem (by omega), dval_snoc]
        have e1 : s.data.toList[j]'(by omega) = s[j] := rfl
        rw [e1]
        have := HN.out
        unfold dv
        omega
      have hyb : 0 ≤ y ∧ y ≤ 99999999999999990 := by omega
      obtain ⟨hyb0, hyb1⟩ := hyb
      go_wp2
      go_roundg (s.size - (j + 1))
      case measure => omega
      case rel => exact ⟨j + 1, y + (c - 48), rfl, by omega, by first | rfl | (congr 1; omega), by go_num, by omega, by omega, HV, rfl⟩
    · have HE : Hid (n = (dval s.data.toList : Int)) := by
        unfold Hid
        rw [HN.out, List.take_of_length_le (by simp; omega)]
      go_wp2
      go_ret
      exact ⟨⟨n, rfl, HE⟩, rfl⟩


theorem ten_mulS {x y i j : Nat} (h : x < 10 ^ i) (g : y < 10 ^ j) : x * y < 10 ^ (i + j) := by
  rw [Nat.pow_add]
  have h1 : x * y ≤ x * 10 ^ j := Nat.mul_le_mul_left _ (Nat.le_of_lt g)
  have h2 : x * 10 ^ j < 10 ^ i * 10 ^ j := Nat.mul_lt_mul_of_pos_right h (Nat.pow_pos (by decide))
  omega
theorem ten_two (e j : Nat) (h : 10 * e ≤ j) : 10 ^ (3 * e) ≤ 2 ^ j := by
  have h1 : (10 ^ 3) ^ e ≤ (2 ^ 10) ^ e := Nat.pow_le_pow_left (by decide) e
  rw [← Nat.pow_mul, ← Nat.pow_mul] at h1
  exact Nat.le_trans h1 (Nat.pow_le_pow_right (by decide) h)
theorem qk_le (N D k : Nat) : qk N D k ≤ N * 2 ^ 150 := Nat.div_le_self _ _
theorem mul_pow_lt {N a b : Nat} (h : N < 2 ^ a) : N * 2 ^ b < 2 ^ (a + b) := by rw [Nat.pow_add]; exact Nat.mul_lt_mul_of_pos_right h (Nat.two_pow_pos _)
theorem qk_lt_ten {N D k a e : Nat} (h : N < 2 ^ a) (he : a + 150 ≤ 2 * e) (h0 : e ≠ 0) : qk N D k < 10 ^ e :=
  Nat.lt_of_le_of_lt (qk_le N D k) (Nat.lt_trans (mul_pow_lt (b := 150) h) (two_lt_tenS (a + 150) e he h0))
theorem qk_lt {N D k : Nat} (h : N < 2 ^ 1000) : qk N D k < 10 ^ 600 := qk_lt_ten (a := 1000) (e := 600) h (by omega) (by decide)
theorem Tx.prod {s : ByteArray} {n m i j k : Nat} (h : Tx s (n * m)) (h1 : n < 10 ^ i) (h2 : m < 10 ^ j) (hk : i + j = k) (h0 : 1 ≤ k) : s.size ≤ k := by
  subst hk
  exact h.size (ten_mulS h1 h2) h0
/-- A quotient of a divided by b, what is left and the divisor, for the power of 2 at k. -/
def CutT (N D k : Nat) (q r b : ByteArray) : Prop := Tx q (qk N D k) ∧ q.size ≤ 600 ∧ ∃ R B, Tx r R ∧ Tx b B ∧ r.size ≤ 2000 ∧ b.size ≤ 2000 ∧ ck N D k = cmpN (2 * R) B

set_option maxHeartbeats 2000000 in
set_option maxRecDepth 100000 in
theorem lbDivT {a b : ByteArray} {N D K : Nat} (z : Int) (w : World) (ha : Tx a N) (hb : Tx b D) (hsa : a.size ≤ 600) (hsb : b.size ≤ 600) (hN : N < 2 ^ 1000) (h0 : D ≠ 0) (hz : z + 150 = (K : Int)) (hz1 : z ≤ 1100) :
    Calls Tryd.prog 36 #[.string a, .string b, .int .i64 z] w fun e w' => ∃ q r y : ByteArray, e = .returned (.tuple #[.string q, .string r, .string y]) ∧ CutT N D K q r y ∧ Below w.heap.size w w' := by
  have HQ : Hid (∀ q, Tx q (qk N D K) → q.size ≤ 600) := fun q h => h.size (qk_lt hN) (by omega)
  by_cases hneg : 0 ≤ z
  · obtain ⟨J, rfl⟩ := Int.eq_ofNat_of_zero_le hneg
    have hK : K = 150 + J := by omega
    have HC : Hid (qk N D K = N / (D * 2 ^ J) ∧ ck N D K = cmpN (2 * (N % (D * 2 ^ J))) (D * 2 ^ J)) := by rw [hK]; exact cut_high N D J
    have HA := hideT' (And.intro ha hb)
    have H0 : Hid (D * 2 ^ J ≠ 0) := Nat.mul_ne_zero h0 (by have := Nat.two_pow_pos J; omega)
    clear ha hb hN h0 hK hz
    go_enter Tryd.func36, Tryd.ntmps36
    go_wp2_with fail
    refine (twoT J (J : Int) w rfl (by omega)).mono ?_
    rintro e w1 ⟨s1, rfl, hT1, hW1⟩
    have hs1 := hT1.two (by omega)
    have HT1 := hideT' hT1
    clear hT1
    go_wp2_with fail
    refine (mulT w1 HA.out.2 HT1.out hsb hs1).mono ?_
    rintro e w2 ⟨s2, rfl, hT2, hW2⟩
    have hs2 : s2.size ≤ 1200 := hT2.prod (HA.out.2.lt' hsb) (HT1.out.lt' hs1) rfl (by omega)
    have HT2 := hideT' hT2
    have hB2 : Below w.heap.size w w2 := hW1.trans (hW2.mono hW1.size)
    clear hT2 hW1 hW2
    go_wp2_with fail
    refine (divT w2 HA.out.1 HT2.out (by omega) (by omega) H0.out).mono ?_
    rintro e w3 ⟨q, r, rfl, hq, hr, hW3⟩
    have HR : Hid (CutT N D K q r s2) := by
      have hq' : Tx q (qk N D K) := by rw [HC.out.1]; exact hq
      have hlt := Nat.mod_lt N (Nat.pos_of_ne_zero H0.out)
      exact ⟨hq', HQ.out q hq', _, _, hr, HT2.out, by have := hr.size (Nat.lt_trans hlt (HT2.out.lt' hs2)) (by omega); omega, by omega, HC.out.2⟩
    have hB3 : Below w.heap.size w w3 := hB2.trans (hW3.mono hB2.size)
    clear hq hr hW3 hB2
    go_wp2
    go_ret3
    exact ⟨_, _, _, rfl, HR.out, hB3⟩
  · obtain ⟨J, hJ⟩ : ∃ J : Nat, -z = (J : Int) := ⟨(-z).toNat, by omega⟩
    have hK : K = 150 - J := by omega
    have hJ150 : J ≤ 150 := by omega
    have HC : Hid (qk N D K = N * 2 ^ J / D ∧ ck N D K = cmpN (2 * (N * 2 ^ J % D)) D) := by rw [hK]; exact cut_low N D J hJ150
    have HA := hideT' (And.intro ha hb)
    have H0 := hideT' h0
    have HJ := hideT' hJ
    clear ha hb hN h0 hK hJ
    go_enter Tryd.func36, Tryd.ntmps36
    go_wp2_with fail
    refine (twoT J (-z) w HJ.out (by omega)).mono ?_
    rintro e w1 ⟨s1, rfl, hT1, hW1⟩
    have hs1 := hT1.two (by omega)
    have HT1 := hideT' hT1
    clear hT1
    go_wp2_with fail
    refine (mulT w1 HA.out.1 HT1.out hsa hs1).mono ?_
    rintro e w2 ⟨s2, rfl, hT2, hW2⟩
    have hs2 : s2.size ≤ 1200 := hT2.prod (HA.out.1.lt' hsa) (HT1.out.lt' hs1) rfl (by omega)
    have HT2 := hideT' hT2
    have hB2 : Below w.heap.size w w2 := hW1.trans (hW2.mono hW1.size)
    clear hT2 hW1 hW2
    go_wp2_with fail
    refine (divT w2 HT2.out HA.out.2 (by omega) (by omega) H0.out).mono ?_
    rintro e w3 ⟨q, r, rfl, hq, hr, hW3⟩
    have HR : Hid (CutT N D K q r b) := by
      have hq' : Tx q (qk N D K) := by rw [HC.out.1]; exact hq
      have hlt := Nat.mod_lt (N * 2 ^ J) (Nat.pos_of_ne_zero H0.out)
      exact ⟨hq', HQ.out q hq', _, _, hr, HA.out.2, by have := hr.size (Nat.lt_trans hlt (HA.out.2.lt' hsb)) (by omega); omega, by omega, HC.out.2⟩
    have hB3 : Below w.heap.size w w3 := hB2.trans (hW3.mono hB2.size)
    clear hq hr hW3 hB2
    go_wp2
    go_ret3
    exact ⟨_, _, _, rfl, HR.out, hB3⟩
end Go.Proofs.YtoiegaggekgmjaaDoor

/-
  What lbOf of spec answers: the nearest real.
-/
namespace Go.Proofs.YtoiegaggekgmjaaDoor
open Go.RowKit
set_option linter.unusedVariables false

/-- The real of rank R with a sign. -/
def RealV (g : Bool) (R : Nat) (v : Value) : Prop := v = .agg #[.bool g, .int .i64 (manOf R : Nat), .int .i64 (expOf R)]
theorem wpList_idS {ops : Array Oper} {rest : List Oper} {a : Act} {w : World} {Q : Exit → Act → World → Prop} (h : wpList Tryd.prog ops Q rest a w) : wpList Tryd.prog ops Q rest a w := h
theorem Tx.sum {r s : ByteArray} {n k : Nat} (hr : Tx r n) (hk : r.size ≤ k) (h : Tx s (n + n)) (h0 : 1 ≤ k) : s.size ≤ k + 1 := h.size (ten_add (hr.lt' hk) (hr.lt' hk)) (by omega)
theorem qk_hi {q B : Nat} (h : q < 2 ^ B) (hb : B = 0 ∨ ∃ B', B = B' + 1 ∧ 2 ^ B' ≤ q) : 53 < B ↔ 9007199254740992 ≤ q := by
  have h53 : (2 : Nat) ^ 53 = 9007199254740992 := by decide
  constructor
  · intro h1
    rcases hb with h2 | ⟨B', h2, h3⟩
    · omega
    · have : 2 ^ 53 ≤ 2 ^ B' := Nat.pow_le_pow_right (by decide) (by omega)
      omega
  · intro h1
    rcases Nat.lt_or_ge 53 B with h2 | h2
    · exact h2
    · have : 2 ^ B ≤ 2 ^ 53 := Nat.pow_le_pow_right (by decide) h2
      omega
theorem bits_lt {N B' a : Nat} (h : 2 ^ B' ≤ N) (hN : N < 2 ^ a) : B' < a := (Nat.pow_lt_pow_iff_right (by decide : 1 < 2)).1 (Nat.lt_of_le_of_lt h hN)
/-- What comes out, out of Man and Exp. -/
theorem out_man {N D K : Nat} (h : Fit N D K) (hm : manR N D K ≠ 9007199254740992) (hk : K ≤ 300) : manOf (K * 4503599627370496 + manR N D K) = manR N D K ∧ expOf (K * 4503599627370496 + manR N D K) = (K : Int) - 150 := by
  have h1 := upR_le (qk N D K) (ck N D K)
  have h2 := h.1
  refine rank_of K _ ?_ ?_ hk
  · unfold manR at *; omega
  · rcases h.2 with h3 | h3
    · left; unfold manR; omega
    · right; exact h3
theorem out_man_inf {N D K : Nat} (h : Fit N D K) (hk : 300 < K) : manOf (K * 4503599627370496 + manR N D K) = 0 ∧ expOf (K * 4503599627370496 + manR N D K) = 151 := by
  have h1 := upR_le (qk N D K) (ck N D K)
  refine rank_inf K _ ?_ hk
  rcases h.2 with h3 | h3
  · unfold manR; omega
  · omega
theorem out_next {N D K : Nat} (hm : manR N D K = 9007199254740992) (hk : K + 1 ≤ 300) : manOf (K * 4503599627370496 + manR N D K) = 4503599627370496 ∧ expOf (K * 4503599627370496 + manR N D K) = (K : Int) + 1 - 150 := by
  have := rank_of (K + 1) 4503599627370496 (by omega) (by omega) hk
  rw [hm, show K * 4503599627370496 + 9007199254740992 = (K + 1) * 4503599627370496 + 4503599627370496 by omega]
  refine ⟨this.1, ?_⟩
  rw [this.2]; omega
theorem out_next_inf {N D K : Nat} (hm : manR N D K = 9007199254740992) (hk : 300 < K + 1) : manOf (K * 4503599627370496 + manR N D K) = 0 ∧ expOf (K * 4503599627370496 + manR N D K) = 151 := by
  rw [hm, show K * 4503599627370496 + 9007199254740992 = (K + 1) * 4503599627370496 + 4503599627370496 by omega]
  exact rank_inf (K + 1) _ (by omega) hk

set_option maxHeartbeats 1000000 in
theorem lbInf_any (g : Bool) (w : World) : Calls Tryd.prog 12 #[.bool g] w fun e w' => e = .returned (.agg #[.bool g, .int .i64 0, .int .i64 151]) ∧ Below w.heap.size w w' := by
  have hz := zero_real.1
  go_enter Tryd.func12, Tryd.ntmps12
  go_wp2
  exact bodyPost_ret (res_real Tryd.results12 _ _ w.heap.size _ _ _ rfl (RowAt.new w _ _)) rfl ⟨rfl, (Below.refl _ _).alloc (Nat.le_refl _) _⟩

set_option maxHeartbeats 8000000 in
set_option maxRecDepth 100000 in
theorem lbOfT {a b : ByteArray} {N D : Nat} (g : Bool) (w : World) (ha : Tx a N) (hb : Tx b D) (hsa : a.size ≤ 600) (hsb : b.size ≤ 600) (hN : N < 2 ^ 1000) (h0 : D ≠ 0) :
    Calls Tryd.prog 19 #[.bool g, .string a, .string b] w fun e w' => (∃ (R : Nat) (v : Value), e = .returned v ∧ Near N D R ∧ RealV g R v) ∧ Below w.heap.size w w' := by
  have hz := zero_real.1
  have hR := RowAt.new w 23 #[.bool false, .int .i64 0, .int .i64 0]
  have hB : Below w.heap.size w (w.alloc (.cells #[.bool false, .int .i64 0, .int .i64 0] 23)) := (Below.refl _ _).alloc (Nat.le_refl _) _
  have HA := hideT' (And.intro ha (And.intro hb (And.intro hN h0)))
  have hbb := ha.bytes [48] (by decide)
  by_cases hn0 : N = 0
  · rw [decide_eq_true (by rw [hn0]; decide)] at hbb
    have HNR : Hid (Near N D 0) := by unfold Hid; rw [hn0]; exact near_zero D h0
    clear ha hb hN h0 hn0
    go_enter Tryd.func19, Tryd.ntmps19
    go_wp2
    exact bodyPost_ret (res_real Tryd.results19 _ _ w.heap.size _ _ _ rfl (RowAt.new w _ _)) rfl ⟨⟨0, _, rfl, HNR.out, rfl⟩, (Below.refl _ _).alloc (Nat.le_refl _) _⟩
  · rw [decide_eq_false (by intro e; exact hn0 (by rw [e]; decide))] at hbb
    have H0 := hideT' hn0
    obtain ⟨E, hE, hF⟩ : ∃ E, E ≤ 1100 ∧ Fit N D E := fit_exists 1100 (qk_lt_pow 1000 hN (Nat.pos_of_ne_zero h0) (by omega))
    have HF := hideT' hF
    clear ha hb hN h0 hn0 hF
    go_enter Tryd.func19, Tryd.ntmps19
    have hws : (w.alloc (.cells #[.bool false, .int .i64 0, .int .i64 0] 23)).heap.size = w.heap.size + 1 := by simp
    generalize hw0 : w.alloc (.cells #[.bool false, .int .i64 0, .int .i64 0] 23) = w0 at hR hB hws
    go_wp2_with fail
    refine (bitsT w0 HA.out.1 hsa).mono ?_
    rintro e w1 ⟨⟨b1, B1, rfl, hb1, hB1, hlt1, hge1⟩, hW1⟩
    have HB1 := hideT' (And.intro hb1 (And.intro hB1 (And.intro hlt1 hge1)))
    have hs1 := hW1.size
    have hR1 := RowAt.below hR hW1 (by omega)
    have hBl1 : Below w.heap.size w w1 := hB.trans (hW1.mono (by omega))
    clear hw0 hlt1 hge1 hR hB hW1
    have hb1' : 0 ≤ b1 ∧ b1 ≤ 2400 := by omega
    obtain ⟨hb10, hb11⟩ := hb1'
    clear hb1 hB1
    go_wp2_with fail
    refine (bitsT w1 HA.out.2.1 hsb).mono ?_
    rintro e w2 ⟨⟨b2, B2, rfl, hb2, hB2, hlt2, hge2⟩, hW2⟩
    have hs2 := hW2.size
    have hR2 := RowAt.below hR1 hW2 (by omega)
    have hBl2 : Below w.heap.size w w2 := hBl1.trans (hW2.mono (by omega))
    have hb2' : 0 ≤ b2 ∧ b2 ≤ 2400 := by omega
    obtain ⟨hb20, hb21⟩ := hb2'
    obtain ⟨zz, hzz⟩ : ∃ zz : Int, zz = b1 - b2 - 53 := ⟨_, rfl⟩
    -- where it begins
    have HS : Hid (∃ (z : Int) (K : Nat), z = (if zz < -150 then -150 else zz) ∧ z + 150 = (K : Int) ∧ z ≤ 1000 ∧ (4503599627370496 ≤ qk N D K ∨ K = 0)) := by
      have hB1' : ∃ B', B1 = B' + 1 ∧ 2 ^ B' ≤ N := by
        rcases HB1.out.2.2.2 with h | h
        · have := HB1.out.2.2.1
          rw [h] at this
          have := H0.out
          omega
        · exact h
      obtain ⟨B', e1, e2⟩ := hB1'
      have e3 : B' < 1000 := bits_lt e2 HA.out.2.2.1
      have e4 := HB1.out.1
      by_cases hlo : zz < -150
      · exact ⟨-150, 0, by rw [if_pos hlo], by omega, by omega, .inr rfl⟩
      · refine ⟨zz, (zz + 150).toNat, by rw [if_neg hlo], by omega, by omega, .inl ?_⟩
        exact qk_first e2 hlt2 (Nat.pos_of_ne_zero HA.out.2.2.2) (by omega)
    obtain ⟨z, K, hzd, hzK, hz1, hst⟩ := HS.out
    have HK := hideT' hzK
    have HST := hideT' hst
    have hz0 : -150 ≤ z := by omega
    have HZ := hideT' hzz
    clear HS hzK hst hlt2 hge2 hB2 hb2 hR1 hBl1 hW2 HB1
    rw [hzz] at hzd
    clear hzz
    by_cases hlo : b1 - b2 - 53 < -150
    · rw [if_pos hlo] at hzd
      subst hzd
      go_wp2_with fail
      refine (lbDivT _ w2 HA.out.1 HA.out.2.1 hsa hsb HA.out.2.2.1 HA.out.2.2.2 HK.out (by omega)).mono ?_
      rintro e w3 ⟨q3, r3, y3, rfl, hC3, hW3⟩
      have HC3 := hideT' hC3
      have hs3 := hW3.size
      have hR3 := RowAt.below hR2 hW3 (by omega)
      have hBl3 : Below w.heap.size w w3 := hBl2.trans (hW3.mono (by omega))
      have hsz3 : w.heap.size + 1 ≤ w3.heap.size := by omega
      clear hC3 hW3 hR2 hBl2
      go_wp2_with fail
      go_loopg [7, 8, 9, 10] (E - K) (fun gg v7 v8 v9 v10 wr => ∃ (z : Int) (K : Nat) (q r y : ByteArray), gg = E - K ∧ v7 = .int .i64 z ∧ v8 = .string q ∧ v9 = .string r ∧ v10 = .string y ∧ Hid (z + 150 = (K : Int)) ∧ -150 ≤ z ∧ z ≤ 1000 ∧ Hid (4503599627370496 ≤ qk N D K ∨ K = 0) ∧ Hid (CutT N D K q r y) ∧ RowAt wr w.heap.size 23 #[.bool false, .int .i64 0, .int .i64 0] ∧ Hid (Below w.heap.size w wr) ∧ w.heap.size + 1 ≤ wr.heap.size)
      case atStart => exact ⟨_, K, q3, r3, y3, rfl, rfl, rfl, rfl, rfl, HK, hz0, hz1, HST, HC3, hR3, hBl3, hsz3⟩
      case round =>
        clear HK HST HC3 hR3 hBl3 hsz3 hz0 hz1 hs1 hs2 hs3
        obtain ⟨z, K, q, r, y, HG, rfl, rfl, rfl, rfl, HK, hz0, hz1, HST, HC, hR, HBl, hsz⟩ := hrel
        have HGG := hideT' HG
        clear HG
        go_wp2_with fail
        refine (bitsT wr HC.out.1 HC.out.2.1).mono ?_
        rintro e w4 ⟨⟨b4, B4, rfl, hb4, hB4, hlt4, hge4⟩, hW4⟩
        have HQ : Hid ((53 : Int) < b4 ↔ 9007199254740992 ≤ qk N D K) := by
          have := qk_hi hlt4 hge4
          unfold Hid; omega
        have hs4 := hW4.size
        have hR4 := RowAt.below hR hW4 (by omega)
        have hBl4 : Below w.heap.size w w4 := HBl.out.trans (hW4.mono (by omega))
        have hb4' : 0 ≤ b4 ∧ b4 ≤ 2400 := by omega
        obtain ⟨hb40, hb41⟩ := hb4'
        clear hlt4 hge4 hR HBl hW4 hb4 hB4
        by_cases h53 : (53 : Int) < b4
        · have hKE : K < E := HF.out.up (HQ.out.1 h53)
          have HQ2 := hideT' (HQ.out.1 h53)
          have hzE : z ≤ 949 := by have := HK.out; omega
          go_wp2_with fail
          refine (lbDivT (K := K + 1) (z + 1) w4 HA.out.1 HA.out.2.1 hsa hsb HA.out.2.2.1 HA.out.2.2.2 (by have := HK.out; omega) (by omega)).mono ?_
          rintro e w5 ⟨q5, r5, y5, rfl, hC5, hW5⟩
          have HC5 := hideT' hC5
          have hs5 := hW5.size
          have hR5 := RowAt.below hR4 hW5 (by omega)
          have hBl5 : Below w.heap.size w w5 := hBl4.trans (hW5.mono (by omega))
          clear hC5 hW5 hR4 hBl4 h53
          go_wp2
          go_roundg (E - (K + 1))
          case measure => have := HGG.out; omega
          case rel => exact ⟨z + 1, K + 1, q5, r5, y5, rfl, by go_num, rfl, rfl, rfl, by unfold Hid; have := HK.out; omega, by omega, by omega, by unfold Hid; left; rw [qk_succ]; have := HQ2.out; omega, HC5, hR5, hBl5, by omega⟩
        · have HFK : Hid (Fit N D K) := by
            have h1 : ¬ 9007199254740992 ≤ qk N D K := fun h => h53 (HQ.out.2 h)
            exact ⟨by omega, HST.out⟩
          have HSQ : Hid (q.size ≤ 17) := HC.out.1.size (k := 17) (Nat.lt_trans HFK.out.1 (by decide)) (by omega)
          go_wp2_with fail
          refine (laSmallR_any q w4 HSQ.out (canon_all HC.out.1.1)).mono ?_
          rintro e w5 ⟨⟨x, rfl, HX⟩, hw5⟩
          subst hw5
          have HXQ : Hid (x = (qk N D K : Int)) := by unfold Hid; rw [HX.out, HC.out.1.2]
          have hx0 : 0 ≤ x := by rw [HXQ.out]; omega
          have hx1 : x < 9007199254740992 := by rw [HXQ.out]; have := HFK.out.1; omega
          have hrem : x.tmod 2 = x % 2 := Int.tmod_eq_emod_of_nonneg hx0
          obtain ⟨R0, Y0, hT1, hT2, hsr, hsy, hck⟩ := HC.out.2.2
          have HTT := hideT' (And.intro hT1 hT2)
          have HCK := hideT' hck
          clear hT1 hT2 hck HX h53
          go_wp2_with fail
          refine (addT w5 HTT.out.1 HTT.out.1 (by omega) (by omega)).mono ?_
          rintro e w6 ⟨s6, rfl, hT6, hW6⟩
          have HT6 : Hid (Tx s6 (R0 + R0)) := hT6
          have hs6 : s6.size ≤ 2001 := Tx.sum HTT.out.1 hsr hT6 (by omega)
          have hR6 := RowAt.below hR4 hW6 (by omega)
          have hBl6 : Below w.heap.size w w6 := hBl4.trans (hW6.mono (by omega))
          have hsz6 : w.heap.size + 1 ≤ w6.heap.size := by have := hW6.size; omega
          clear hT6 hW6 hR4 hBl4
          go_wp2_with fail
          refine (cmpT w6 HT6.out HTT.out.2 (by omega) (by omega)).mono ?_
          rintro e w7 ⟨rfl, hw7⟩
          subst hw7
          obtain ⟨c, hc⟩ : ∃ c, c = cmpI ((R0 + R0 : Nat) : Int) (Y0 : Int) := ⟨_, rfl⟩
          rw [← hc]
          have HCC : Hid (c = ck N D K) := by unfold Hid; rw [hc, cmpI_nat, ← Nat.two_mul, HCK.out]
          have HM : Hid (∀ m : Int, (m = x + 1 ∧ (0 < c ∨ (c = 0 ∧ x % 2 = 1))) ∨ (m = x ∧ ¬ (0 < c ∨ (c = 0 ∧ x % 2 = 1))) → m = (manR N D K : Int)) := by
            intro m hm
            unfold manR upR
            rw [← HCC.out]
            have := HXQ.out
            rcases hm with ⟨h1, h2⟩ | ⟨h1, h2⟩
            · rw [if_pos (by omega)]; omega
            · rw [if_neg (by omega)]; omega
          have HFL : Hid (∀ m : Int, m = (manR N D K : Int) → m ≠ 9007199254740992 → z ≤ 150 → Near N D (K * 4503599627370496 + manR N D K) ∧ RealV g (K * 4503599627370496 + manR N D K) (.agg #[.bool g, .int .i64 m, .int .i64 z])) := by
            intro m hm hne hle
            have := out_man HFK.out (by omega) (by have := HK.out; omega)
            refine ⟨⟨K, HFK.out, rfl⟩, ?_⟩
            unfold RealV
            rw [this.1, this.2, ← hm, show (K : Int) - 150 = z by have := HK.out; omega]
          have HFI : Hid (150 < z → Near N D (K * 4503599627370496 + manR N D K) ∧ RealV g (K * 4503599627370496 + manR N D K) (.agg #[.bool g, .int .i64 0, .int .i64 151])) := by
            intro hlt
            have := out_man_inf HFK.out (by have := HK.out; omega)
            refine ⟨⟨K, HFK.out, rfl⟩, ?_⟩
            unfold RealV
            rw [this.1, this.2]
            rfl
          have HGL : Hid ((9007199254740992 : Int) = (manR N D K : Int) → z + 1 ≤ 150 → Near N D (K * 4503599627370496 + manR N D K) ∧ RealV g (K * 4503599627370496 + manR N D K) (.agg #[.bool g, .int .i64 4503599627370496, .int .i64 (z + 1)])) := by
            intro hm hle
            have := out_next (N := N) (D := D) (K := K) (by omega) (by have := HK.out; omega)
            refine ⟨⟨K, HFK.out, rfl⟩, ?_⟩
            unfold RealV
            rw [this.1, this.2, show (K : Int) + 1 - 150 = z + 1 by have := HK.out; omega]
            rfl
          have HGI : Hid ((9007199254740992 : Int) = (manR N D K : Int) → 150 < z + 1 → Near N D (K * 4503599627370496 + manR N D K) ∧ RealV g (K * 4503599627370496 + manR N D K) (.agg #[.bool g, .int .i64 0, .int .i64 151])) := by
            intro hm hlt
            have := out_next_inf (N := N) (D := D) (K := K) (by omega) (by have := HK.out; omega)
            refine ⟨⟨K, HFK.out, rfl⟩, ?_⟩
            unfold RealV
            rw [this.1, this.2]
            rfl
          clear hc hs6 hsr hsy
          by_cases hc0 : 0 < c
          · by_cases hx : x = 9007199254740991
            · subst hx
              have HMM : Hid ((9007199254740992 : Int) = (manR N D K : Int)) := HM.out _ (.inl ⟨by omega, by omega⟩)
              by_cases hzb : (150 : Int) < z + 1
              · have HE := hideT' (HGI.out HMM.out hzb)
                go_wp2_with fail
                refine (lbInf_any g w7).mono ?_
                rintro e w8 ⟨rfl, hW8⟩
                have hR8 := RowAt.below hR6 hW8 (by omega)
                have hBl8 : Below w.heap.size w w8 := hBl6.trans (hW8.mono (by omega))
                clear hR6 hBl6 hW8
                go_wp2_with (with_reducible refine wpList_idS ?_; refine store_3 rfl 23 _ _ rfl rfl zero_real.2 w.heap.size _ rfl (real_one _ _ _) rfl rfl _ rfl hR8 ?_; intro w9 hR9 hg9 hs9)
                refine bodyPost_ret (res_real Tryd.results19 _ _ w.heap.size _ _ _ rfl hR9) rfl ⟨⟨_, _, rfl, HE.out⟩, hBl8.grown hg9 hBl8.size (by intro k hk; cases hk; omega)⟩
              · have HE := hideT' (HGL.out HMM.out (by omega))
                go_wp2_with (with_reducible refine wpList_idS ?_; refine store_3 rfl 23 _ _ rfl rfl zero_real.2 w.heap.size _ rfl (real_one _ _ _) rfl rfl _ rfl hR6 ?_; intro w9 hR9 hg9 hs9)
                refine bodyPost_ret (res_real Tryd.results19 _ _ w.heap.size _ _ _ rfl hR9) rfl ⟨⟨_, _, rfl, HE.out⟩, hBl6.grown hg9 hBl6.size (by intro k hk; cases hk; omega)⟩
            · have hxb : (x + 1 == 9007199254740992) = false := by simp; omega
              have HMM : Hid (x + 1 = (manR N D K : Int)) := HM.out _ (.inl ⟨by omega, by omega⟩)
              by_cases hzb : (150 : Int) < z
              · have HE := hideT' (HFI.out hzb)
                go_wp2_with fail
                refine (lbInf_any g w7).mono ?_
                rintro e w8 ⟨rfl, hW8⟩
                have hR8 := RowAt.below hR6 hW8 (by omega)
                have hBl8 : Below w.heap.size w w8 := hBl6.trans (hW8.mono (by omega))
                clear hR6 hBl6 hW8
                go_wp2_with (with_reducible refine wpList_idS ?_; refine store_3 rfl 23 _ _ rfl rfl zero_real.2 w.heap.size _ rfl (real_one _ _ _) rfl rfl _ rfl hR8 ?_; intro w9 hR9 hg9 hs9)
                refine bodyPost_ret (res_real Tryd.results19 _ _ w.heap.size _ _ _ rfl hR9) rfl ⟨⟨_, _, rfl, HE.out⟩, hBl8.grown hg9 hBl8.size (by intro k hk; cases hk; omega)⟩
              · have HE := hideT' (HFL.out (x + 1) HMM.out (by omega) (by omega))
                go_wp2_with (with_reducible refine wpList_idS ?_; refine store_3 rfl 23 _ _ rfl rfl zero_real.2 w.heap.size _ rfl (real_one _ _ _) rfl rfl _ rfl hR6 ?_; intro w9 hR9 hg9 hs9)
                refine bodyPost_ret (res_real Tryd.results19 _ _ w.heap.size _ _ _ rfl hR9) rfl ⟨⟨_, _, rfl, HE.out⟩, hBl6.grown hg9 hBl6.size (by intro k hk; cases hk; omega)⟩
          · by_cases hc1 : c = 0
            · subst hc1
              by_cases hp : x % 2 = 1
              · by_cases hx : x = 9007199254740991
                · subst hx
                  have HMM : Hid ((9007199254740992 : Int) = (manR N D K : Int)) := HM.out _ (.inl ⟨by omega, by omega⟩)
                  by_cases hzb : (150 : Int) < z + 1
                  · have HE := hideT' (HGI.out HMM.out hzb)
                    go_wp2_with fail
                    refine (lbInf_any g w7).mono ?_
                    rintro e w8 ⟨rfl, hW8⟩
                    have hR8 := RowAt.below hR6 hW8 (by omega)
                    have hBl8 : Below w.heap.size w w8 := hBl6.trans (hW8.mono (by omega))
                    clear hR6 hBl6 hW8
                    go_wp2_with (with_reducible refine wpList_idS ?_; refine store_3 rfl 23 _ _ rfl rfl zero_real.2 w.heap.size _ rfl (real_one _ _ _) rfl rfl _ rfl hR8 ?_; intro w9 hR9 hg9 hs9)
                    refine bodyPost_ret (res_real Tryd.results19 _ _ w.heap.size _ _ _ rfl hR9) rfl ⟨⟨_, _, rfl, HE.out⟩, hBl8.grown hg9 hBl8.size (by intro k hk; cases hk; omega)⟩
                  · have HE := hideT' (HGL.out HMM.out (by omega))
                    go_wp2_with (with_reducible refine wpList_idS ?_; refine store_3 rfl 23 _ _ rfl rfl zero_real.2 w.heap.size _ rfl (real_one _ _ _) rfl rfl _ rfl hR6 ?_; intro w9 hR9 hg9 hs9)
                    refine bodyPost_ret (res_real Tryd.results19 _ _ w.heap.size _ _ _ rfl hR9) rfl ⟨⟨_, _, rfl, HE.out⟩, hBl6.grown hg9 hBl6.size (by intro k hk; cases hk; omega)⟩
                · have hxb : (x + 1 == 9007199254740992) = false := by simp; omega
                  have HMM : Hid (x + 1 = (manR N D K : Int)) := HM.out _ (.inl ⟨by omega, by omega⟩)
                  by_cases hzb : (150 : Int) < z
                  · have HE := hideT' (HFI.out hzb)
                    go_wp2_with fail
                    refine (lbInf_any g w7).mono ?_
                    rintro e w8 ⟨rfl, hW8⟩
                    have hR8 := RowAt.below hR6 hW8 (by omega)
                    have hBl8 : Below w.heap.size w w8 := hBl6.trans (hW8.mono (by omega))
                    clear hR6 hBl6 hW8
                    go_wp2_with (with_reducible refine wpList_idS ?_; refine store_3 rfl 23 _ _ rfl rfl zero_real.2 w.heap.size _ rfl (real_one _ _ _) rfl rfl _ rfl hR8 ?_; intro w9 hR9 hg9 hs9)
                    refine bodyPost_ret (res_real Tryd.results19 _ _ w.heap.size _ _ _ rfl hR9) rfl ⟨⟨_, _, rfl, HE.out⟩, hBl8.grown hg9 hBl8.size (by intro k hk; cases hk; omega)⟩
                  · have HE := hideT' (HFL.out (x + 1) HMM.out (by omega) (by omega))
                    go_wp2_with (with_reducible refine wpList_idS ?_; refine store_3 rfl 23 _ _ rfl rfl zero_real.2 w.heap.size _ rfl (real_one _ _ _) rfl rfl _ rfl hR6 ?_; intro w9 hR9 hg9 hs9)
                    refine bodyPost_ret (res_real Tryd.results19 _ _ w.heap.size _ _ _ rfl hR9) rfl ⟨⟨_, _, rfl, HE.out⟩, hBl6.grown hg9 hBl6.size (by intro k hk; cases hk; omega)⟩
              · have hp0 : x % 2 = 0 := by omega
                have hxb : (x == 9007199254740992) = false := by simp; omega
                have HMM : Hid (x = (manR N D K : Int)) := HM.out _ (.inr ⟨by omega, by omega⟩)
                by_cases hzb : (150 : Int) < z
                · have HE := hideT' (HFI.out hzb)
                  go_wp2_with fail
                  refine (lbInf_any g w7).mono ?_
                  rintro e w8 ⟨rfl, hW8⟩
                  have hR8 := RowAt.below hR6 hW8 (by omega)
                  have hBl8 : Below w.heap.size w w8 := hBl6.trans (hW8.mono (by omega))
                  clear hR6 hBl6 hW8
                  go_wp2_with (with_reducible refine wpList_idS ?_; refine store_3 rfl 23 _ _ rfl rfl zero_real.2 w.heap.size _ rfl (real_one _ _ _) rfl rfl _ rfl hR8 ?_; intro w9 hR9 hg9 hs9)
                  refine bodyPost_ret (res_real Tryd.results19 _ _ w.heap.size _ _ _ rfl hR9) rfl ⟨⟨_, _, rfl, HE.out⟩, hBl8.grown hg9 hBl8.size (by intro k hk; cases hk; omega)⟩
                · have HE := hideT' (HFL.out x HMM.out (by omega) (by omega))
                  go_wp2_with (with_reducible refine wpList_idS ?_; refine store_3 rfl 23 _ _ rfl rfl zero_real.2 w.heap.size _ rfl (real_one _ _ _) rfl rfl _ rfl hR6 ?_; intro w9 hR9 hg9 hs9)
                  refine bodyPost_ret (res_real Tryd.results19 _ _ w.heap.size _ _ _ rfl hR9) rfl ⟨⟨_, _, rfl, HE.out⟩, hBl6.grown hg9 hBl6.size (by intro k hk; cases hk; omega)⟩
            · have hc2 : (c == 0) = false := by simpa using hc1
              have hxb : (x == 9007199254740992) = false := by simp; omega
              have HMM : Hid (x = (manR N D K : Int)) := HM.out _ (.inr ⟨by omega, by omega⟩)
              by_cases hzb : (150 : Int) < z
              · have HE := hideT' (HFI.out hzb)
                go_wp2_with fail
                refine (lbInf_any g w7).mono ?_
                rintro e w8 ⟨rfl, hW8⟩
                have hR8 := RowAt.below hR6 hW8 (by omega)
                have hBl8 : Below w.heap.size w w8 := hBl6.trans (hW8.mono (by omega))
                clear hR6 hBl6 hW8
                go_wp2_with (with_reducible refine wpList_idS ?_; refine store_3 rfl 23 _ _ rfl rfl zero_real.2 w.heap.size _ rfl (real_one _ _ _) rfl rfl _ rfl hR8 ?_; intro w9 hR9 hg9 hs9)
                refine bodyPost_ret (res_real Tryd.results19 _ _ w.heap.size _ _ _ rfl hR9) rfl ⟨⟨_, _, rfl, HE.out⟩, hBl8.grown hg9 hBl8.size (by intro k hk; cases hk; omega)⟩
              · have HE := hideT' (HFL.out x HMM.out (by omega) (by omega))
                go_wp2_with (with_reducible refine wpList_idS ?_; refine store_3 rfl 23 _ _ rfl rfl zero_real.2 w.heap.size _ rfl (real_one _ _ _) rfl rfl _ rfl hR6 ?_; intro w9 hR9 hg9 hs9)
                refine bodyPost_ret (res_real Tryd.results19 _ _ w.heap.size _ _ _ rfl hR9) rfl ⟨⟨_, _, rfl, HE.out⟩, hBl6.grown hg9 hBl6.size (by intro k hk; cases hk; omega)⟩
    · rw [if_neg hlo] at hzd
      subst hzd
      go_wp2_with fail
      refine (lbDivT _ w2 HA.out.1 HA.out.2.1 hsa hsb HA.out.2.2.1 HA.out.2.2.2 HK.out (by omega)).mono ?_
      rintro e w3 ⟨q3, r3, y3, rfl, hC3, hW3⟩
      have HC3 := hideT' hC3
      have hs3 := hW3.size
      have hR3 := RowAt.below hR2 hW3 (by omega)
      have hBl3 : Below w.heap.size w w3 := hBl2.trans (hW3.mono (by omega))
      have hsz3 : w.heap.size + 1 ≤ w3.heap.size := by omega
      clear hC3 hW3 hR2 hBl2
      go_wp2_with fail
      go_loopg [7, 8, 9, 10] (E - K) (fun gg v7 v8 v9 v10 wr => ∃ (z : Int) (K : Nat) (q r y : ByteArray), gg = E - K ∧ v7 = .int .i64 z ∧ v8 = .string q ∧ v9 = .string r ∧ v10 = .string y ∧ Hid (z + 150 = (K : Int)) ∧ -150 ≤ z ∧ z ≤ 1000 ∧ Hid (4503599627370496 ≤ qk N D K ∨ K = 0) ∧ Hid (CutT N D K q r y) ∧ RowAt wr w.heap.size 23 #[.bool false, .int .i64 0, .int .i64 0] ∧ Hid (Below w.heap.size w wr) ∧ w.heap.size + 1 ≤ wr.heap.size)
      case atStart => exact ⟨_, K, q3, r3, y3, rfl, rfl, rfl, rfl, rfl, HK, hz0, hz1, HST, HC3, hR3, hBl3, hsz3⟩
      case round =>
        clear HK HST HC3 hR3 hBl3 hsz3 hz0 hz1 hs1 hs2 hs3
        obtain ⟨z, K, q, r, y, HG, rfl, rfl, rfl, rfl, HK, hz0, hz1, HST, HC, hR, HBl, hsz⟩ := hrel
        have HGG := hideT' HG
        clear HG
        go_wp2_with fail
        refine (bitsT wr HC.out.1 HC.out.2.1).mono ?_
        rintro e w4 ⟨⟨b4, B4, rfl, hb4, hB4, hlt4, hge4⟩, hW4⟩
        have HQ : Hid ((53 : Int) < b4 ↔ 9007199254740992 ≤ qk N D K) := by
          have := qk_hi hlt4 hge4
          unfold Hid; omega
        have hs4 := hW4.size
        have hR4 := RowAt.below hR hW4 (by omega)
        have hBl4 : Below w.heap.size w w4 := HBl.out.trans (hW4.mono (by omega))
        have hb4' : 0 ≤ b4 ∧ b4 ≤ 2400 := by omega
        obtain ⟨hb40, hb41⟩ := hb4'
        clear hlt4 hge4 hR HBl hW4 hb4 hB4
        by_cases h53 : (53 : Int) < b4
        · have hKE : K < E := HF.out.up (HQ.out.1 h53)
          have HQ2 := hideT' (HQ.out.1 h53)
          have hzE : z ≤ 949 := by have := HK.out; omega
          go_wp2_with fail
          refine (lbDivT (K := K + 1) (z + 1) w4 HA.out.1 HA.out.2.1 hsa hsb HA.out.2.2.1 HA.out.2.2.2 (by have := HK.out; omega) (by omega)).mono ?_
          rintro e w5 ⟨q5, r5, y5, rfl, hC5, hW5⟩
          have HC5 := hideT' hC5
          have hs5 := hW5.size
          have hR5 := RowAt.below hR4 hW5 (by omega)
          have hBl5 : Below w.heap.size w w5 := hBl4.trans (hW5.mono (by omega))
          clear hC5 hW5 hR4 hBl4 h53
          go_wp2
          go_roundg (E - (K + 1))
          case measure => have := HGG.out; omega
          case rel => exact ⟨z + 1, K + 1, q5, r5, y5, rfl, by go_num, rfl, rfl, rfl, by unfold Hid; have := HK.out; omega, by omega, by omega, by unfold Hid; left; rw [qk_succ]; have := HQ2.out; omega, HC5, hR5, hBl5, by omega⟩
        · have HFK : Hid (Fit N D K) := by
            have h1 : ¬ 9007199254740992 ≤ qk N D K := fun h => h53 (HQ.out.2 h)
            exact ⟨by omega, HST.out⟩
          have HSQ : Hid (q.size ≤ 17) := HC.out.1.size (k := 17) (Nat.lt_trans HFK.out.1 (by decide)) (by omega)
          go_wp2_with fail
          refine (laSmallR_any q w4 HSQ.out (canon_all HC.out.1.1)).mono ?_
          rintro e w5 ⟨⟨x, rfl, HX⟩, hw5⟩
          subst hw5
          have HXQ : Hid (x = (qk N D K : Int)) := by unfold Hid; rw [HX.out, HC.out.1.2]
          have hx0 : 0 ≤ x := by rw [HXQ.out]; omega
          have hx1 : x < 9007199254740992 := by rw [HXQ.out]; have := HFK.out.1; omega
          have hrem : x.tmod 2 = x % 2 := Int.tmod_eq_emod_of_nonneg hx0
          obtain ⟨R0, Y0, hT1, hT2, hsr, hsy, hck⟩ := HC.out.2.2
          have HTT := hideT' (And.intro hT1 hT2)
          have HCK := hideT' hck
          clear hT1 hT2 hck HX h53
          go_wp2_with fail
          refine (addT w5 HTT.out.1 HTT.out.1 (by omega) (by omega)).mono ?_
          rintro e w6 ⟨s6, rfl, hT6, hW6⟩
          have HT6 : Hid (Tx s6 (R0 + R0)) := hT6
          have hs6 : s6.size ≤ 2001 := Tx.sum HTT.out.1 hsr hT6 (by omega)
          have hR6 := RowAt.below hR4 hW6 (by omega)
          have hBl6 : Below w.heap.size w w6 := hBl4.trans (hW6.mono (by omega))
          have hsz6 : w.heap.size + 1 ≤ w6.heap.size := by have := hW6.size; omega
          clear hT6 hW6 hR4 hBl4
          go_wp2_with fail
          refine (cmpT w6 HT6.out HTT.out.2 (by omega) (by omega)).mono ?_
          rintro e w7 ⟨rfl, hw7⟩
          subst hw7
          obtain ⟨c, hc⟩ : ∃ c, c = cmpI ((R0 + R0 : Nat) : Int) (Y0 : Int) := ⟨_, rfl⟩
          rw [← hc]
          have HCC : Hid (c = ck N D K) := by unfold Hid; rw [hc, cmpI_nat, ← Nat.two_mul, HCK.out]
          have HM : Hid (∀ m : Int, (m = x + 1 ∧ (0 < c ∨ (c = 0 ∧ x % 2 = 1))) ∨ (m = x ∧ ¬ (0 < c ∨ (c = 0 ∧ x % 2 = 1))) → m = (manR N D K : Int)) := by
            intro m hm
            unfold manR upR
            rw [← HCC.out]
            have := HXQ.out
            rcases hm with ⟨h1, h2⟩ | ⟨h1, h2⟩
            · rw [if_pos (by omega)]; omega
            · rw [if_neg (by omega)]; omega
          have HFL : Hid (∀ m : Int, m = (manR N D K : Int) → m ≠ 9007199254740992 → z ≤ 150 → Near N D (K * 4503599627370496 + manR N D K) ∧ RealV g (K * 4503599627370496 + manR N D K) (.agg #[.bool g, .int .i64 m, .int .i64 z])) := by
            intro m hm hne hle
            have := out_man HFK.out (by omega) (by have := HK.out; omega)
            refine ⟨⟨K, HFK.out, rfl⟩, ?_⟩
            unfold RealV
            rw [this.1, this.2, ← hm, show (K : Int) - 150 = z by have := HK.out; omega]
          have HFI : Hid (150 < z → Near N D (K * 4503599627370496 + manR N D K) ∧ RealV g (K * 4503599627370496 + manR N D K) (.agg #[.bool g, .int .i64 0, .int .i64 151])) := by
            intro hlt
            have := out_man_inf HFK.out (by have := HK.out; omega)
            refine ⟨⟨K, HFK.out, rfl⟩, ?_⟩
            unfold RealV
            rw [this.1, this.2]
            rfl
          have HGL : Hid ((9007199254740992 : Int) = (manR N D K : Int) → z + 1 ≤ 150 → Near N D (K * 4503599627370496 + manR N D K) ∧ RealV g (K * 4503599627370496 + manR N D K) (.agg #[.bool g, .int .i64 4503599627370496, .int .i64 (z + 1)])) := by
            intro hm hle
            have := out_next (N := N) (D := D) (K := K) (by omega) (by have := HK.out; omega)
            refine ⟨⟨K, HFK.out, rfl⟩, ?_⟩
            unfold RealV
            rw [this.1, this.2, show (K : Int) + 1 - 150 = z + 1 by have := HK.out; omega]
            rfl
          have HGI : Hid ((9007199254740992 : Int) = (manR N D K : Int) → 150 < z + 1 → Near N D (K * 4503599627370496 + manR N D K) ∧ RealV g (K * 4503599627370496 + manR N D K) (.agg #[.bool g, .int .i64 0, .int .i64 151])) := by
            intro hm hlt
            have := out_next_inf (N := N) (D := D) (K := K) (by omega) (by have := HK.out; omega)
            refine ⟨⟨K, HFK.out, rfl⟩, ?_⟩
            unfold RealV
            rw [this.1, this.2]
            rfl
          clear hc hs6 hsr hsy
          by_cases hc0 : 0 < c
          · by_cases hx : x = 9007199254740991
            · subst hx
              have HMM : Hid ((9007199254740992 : Int) = (manR N D K : Int)) := HM.out _ (.inl ⟨by omega, by omega⟩)
              by_cases hzb : (150 : Int) < z + 1
              · have HE := hideT' (HGI.out HMM.out hzb)
                go_wp2_with fail
                refine (lbInf_any g w7).mono ?_
                rintro e w8 ⟨rfl, hW8⟩
                have hR8 := RowAt.below hR6 hW8 (by omega)
                have hBl8 : Below w.heap.size w w8 := hBl6.trans (hW8.mono (by omega))
                clear hR6 hBl6 hW8
                go_wp2_with (with_reducible refine wpList_idS ?_; refine store_3 rfl 23 _ _ rfl rfl zero_real.2 w.heap.size _ rfl (real_one _ _ _) rfl rfl _ rfl hR8 ?_; intro w9 hR9 hg9 hs9)
                refine bodyPost_ret (res_real Tryd.results19 _ _ w.heap.size _ _ _ rfl hR9) rfl ⟨⟨_, _, rfl, HE.out⟩, hBl8.grown hg9 hBl8.size (by intro k hk; cases hk; omega)⟩
              · have HE := hideT' (HGL.out HMM.out (by omega))
                go_wp2_with (with_reducible refine wpList_idS ?_; refine store_3 rfl 23 _ _ rfl rfl zero_real.2 w.heap.size _ rfl (real_one _ _ _) rfl rfl _ rfl hR6 ?_; intro w9 hR9 hg9 hs9)
                refine bodyPost_ret (res_real Tryd.results19 _ _ w.heap.size _ _ _ rfl hR9) rfl ⟨⟨_, _, rfl, HE.out⟩, hBl6.grown hg9 hBl6.size (by intro k hk; cases hk; omega)⟩
            · have hxb : (x + 1 == 9007199254740992) = false := by simp; omega
              have HMM : Hid (x + 1 = (manR N D K : Int)) := HM.out _ (.inl ⟨by omega, by omega⟩)
              by_cases hzb : (150 : Int) < z
              · have HE := hideT' (HFI.out hzb)
                go_wp2_with fail
                refine (lbInf_any g w7).mono ?_
                rintro e w8 ⟨rfl, hW8⟩
                have hR8 := RowAt.below hR6 hW8 (by omega)
                have hBl8 : Below w.heap.size w w8 := hBl6.trans (hW8.mono (by omega))
                clear hR6 hBl6 hW8
                go_wp2_with (with_reducible refine wpList_idS ?_; refine store_3 rfl 23 _ _ rfl rfl zero_real.2 w.heap.size _ rfl (real_one _ _ _) rfl rfl _ rfl hR8 ?_; intro w9 hR9 hg9 hs9)
                refine bodyPost_ret (res_real Tryd.results19 _ _ w.heap.size _ _ _ rfl hR9) rfl ⟨⟨_, _, rfl, HE.out⟩, hBl8.grown hg9 hBl8.size (by intro k hk; cases hk; omega)⟩
              · have HE := hideT' (HFL.out (x + 1) HMM.out (by omega) (by omega))
                go_wp2_with (with_reducible refine wpList_idS ?_; refine store_3 rfl 23 _ _ rfl rfl zero_real.2 w.heap.size _ rfl (real_one _ _ _) rfl rfl _ rfl hR6 ?_; intro w9 hR9 hg9 hs9)
                refine bodyPost_ret (res_real Tryd.results19 _ _ w.heap.size _ _ _ rfl hR9) rfl ⟨⟨_, _, rfl, HE.out⟩, hBl6.grown hg9 hBl6.size (by intro k hk; cases hk; omega)⟩
          · by_cases hc1 : c = 0
            · subst hc1
              by_cases hp : x % 2 = 1
              · by_cases hx : x = 9007199254740991
                · subst hx
                  have HMM : Hid ((9007199254740992 : Int) = (manR N D K : Int)) := HM.out _ (.inl ⟨by omega, by omega⟩)
                  by_cases hzb : (150 : Int) < z + 1
                  · have HE := hideT' (HGI.out HMM.out hzb)
                    go_wp2_with fail
                    refine (lbInf_any g w7).mono ?_
                    rintro e w8 ⟨rfl, hW8⟩
                    have hR8 := RowAt.below hR6 hW8 (by omega)
                    have hBl8 : Below w.heap.size w w8 := hBl6.trans (hW8.mono (by omega))
                    clear hR6 hBl6 hW8
                    go_wp2_with (with_reducible refine wpList_idS ?_; refine store_3 rfl 23 _ _ rfl rfl zero_real.2 w.heap.size _ rfl (real_one _ _ _) rfl rfl _ rfl hR8 ?_; intro w9 hR9 hg9 hs9)
                    refine bodyPost_ret (res_real Tryd.results19 _ _ w.heap.size _ _ _ rfl hR9) rfl ⟨⟨_, _, rfl, HE.out⟩, hBl8.grown hg9 hBl8.size (by intro k hk; cases hk; omega)⟩
                  · have HE := hideT' (HGL.out HMM.out (by omega))
                    go_wp2_with (with_reducible refine wpList_idS ?_; refine store_3 rfl 23 _ _ rfl rfl zero_real.2 w.heap.size _ rfl (real_one _ _ _) rfl rfl _ rfl hR6 ?_; intro w9 hR9 hg9 hs9)
                    refine bodyPost_ret (res_real Tryd.results19 _ _ w.heap.size _ _ _ rfl hR9) rfl ⟨⟨_, _, rfl, HE.out⟩, hBl6.grown hg9 hBl6.size (by intro k hk; cases hk; omega)⟩
                · have hxb : (x + 1 == 9007199254740992) = false := by simp; omega
                  have HMM : Hid (x + 1 = (manR N D K : Int)) := HM.out _ (.inl ⟨by omega, by omega⟩)
                  by_cases hzb : (150 : Int) < z
                  · have HE := hideT' (HFI.out hzb)
                    go_wp2_with fail
                    refine (lbInf_any g w7).mono ?_
                    rintro e w8 ⟨rfl, hW8⟩
                    have hR8 := RowAt.below hR6 hW8 (by omega)
                    have hBl8 : Below w.heap.size w w8 := hBl6.trans (hW8.mono (by omega))
                    clear hR6 hBl6 hW8
                    go_wp2_with (with_reducible refine wpList_idS ?_; refine store_3 rfl 23 _ _ rfl rfl zero_real.2 w.heap.size _ rfl (real_one _ _ _) rfl rfl _ rfl hR8 ?_; intro w9 hR9 hg9 hs9)
                    refine bodyPost_ret (res_real Tryd.results19 _ _ w.heap.size _ _ _ rfl hR9) rfl ⟨⟨_, _, rfl, HE.out⟩, hBl8.grown hg9 hBl8.size (by intro k hk; cases hk; omega)⟩
                  · have HE := hideT' (HFL.out (x + 1) HMM.out (by omega) (by omega))
                    go_wp2_with (with_reducible refine wpList_idS ?_; refine store_3 rfl 23 _ _ rfl rfl zero_real.2 w.heap.size _ rfl (real_one _ _ _) rfl rfl _ rfl hR6 ?_; intro w9 hR9 hg9 hs9)
                    refine bodyPost_ret (res_real Tryd.results19 _ _ w.heap.size _ _ _ rfl hR9) rfl ⟨⟨_, _, rfl, HE.out⟩, hBl6.grown hg9 hBl6.size (by intro k hk; cases hk; omega)⟩
              · have hp0 : x % 2 = 0 := by omega
                have hxb : (x == 9007199254740992) = false := by simp; omega
                have HMM : Hid (x = (manR N D K : Int)) := HM.out _ (.inr ⟨by omega, by omega⟩)
                by_cases hzb : (150 : Int) < z
                · have HE := hideT' (HFI.out hzb)
                  go_wp2_with fail
                  refine (lbInf_any g w7).mono ?_
                  rintro e w8 ⟨rfl, hW8⟩
                  have hR8 := RowAt.below hR6 hW8 (by omega)
                  have hBl8 : Below w.heap.size w w8 := hBl6.trans (hW8.mono (by omega))
                  clear hR6 hBl6 hW8
                  go_wp2_with (with_reducible refine wpList_idS ?_; refine store_3 rfl 23 _ _ rfl rfl zero_real.2 w.heap.size _ rfl (real_one _ _ _) rfl rfl _ rfl hR8 ?_; intro w9 hR9 hg9 hs9)
                  refine bodyPost_ret (res_real Tryd.results19 _ _ w.heap.size _ _ _ rfl hR9) rfl ⟨⟨_, _, rfl, HE.out⟩, hBl8.grown hg9 hBl8.size (by intro k hk; cases hk; omega)⟩
                · have HE := hideT' (HFL.out x HMM.out (by omega) (by omega))
                  go_wp2_with (with_reducible refine wpList_idS ?_; refine store_3 rfl 23 _ _ rfl rfl zero_real.2 w.heap.size _ rfl (real_one _ _ _) rfl rfl _ rfl hR6 ?_; intro w9 hR9 hg9 hs9)
                  refine bodyPost_ret (res_real Tryd.results19 _ _ w.heap.size _ _ _ rfl hR9) rfl ⟨⟨_, _, rfl, HE.out⟩, hBl6.grown hg9 hBl6.size (by intro k hk; cases hk; omega)⟩
            · have hc2 : (c == 0) = false := by simpa using hc1
              have hxb : (x == 9007199254740992) = false := by simp; omega
              have HMM : Hid (x = (manR N D K : Int)) := HM.out _ (.inr ⟨by omega, by omega⟩)
              by_cases hzb : (150 : Int) < z
              · have HE := hideT' (HFI.out hzb)
                go_wp2_with fail
                refine (lbInf_any g w7).mono ?_
                rintro e w8 ⟨rfl, hW8⟩
                have hR8 := RowAt.below hR6 hW8 (by omega)
                have hBl8 : Below w.heap.size w w8 := hBl6.trans (hW8.mono (by omega))
                clear hR6 hBl6 hW8
                go_wp2_with (with_reducible refine wpList_idS ?_; refine store_3 rfl 23 _ _ rfl rfl zero_real.2 w.heap.size _ rfl (real_one _ _ _) rfl rfl _ rfl hR8 ?_; intro w9 hR9 hg9 hs9)
                refine bodyPost_ret (res_real Tryd.results19 _ _ w.heap.size _ _ _ rfl hR9) rfl ⟨⟨_, _, rfl, HE.out⟩, hBl8.grown hg9 hBl8.size (by intro k hk; cases hk; omega)⟩
              · have HE := hideT' (HFL.out x HMM.out (by omega) (by omega))
                go_wp2_with (with_reducible refine wpList_idS ?_; refine store_3 rfl 23 _ _ rfl rfl zero_real.2 w.heap.size _ rfl (real_one _ _ _) rfl rfl _ rfl hR6 ?_; intro w9 hR9 hg9 hs9)
                refine bodyPost_ret (res_real Tryd.results19 _ _ w.heap.size _ _ _ rfl hR9) rfl ⟨⟨_, _, rfl, HE.out⟩, hBl6.grown hg9 hBl6.size (by intro k hk; cases hk; omega)⟩
end Go.Proofs.YtoiegaggekgmjaaDoor
