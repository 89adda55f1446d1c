/-
  What spec.laSqrt and spec.SqrtNat answer.
-/
import Derived.Test.YtmfpnbmfcoahbaaDoorLaBase
import Derived.Test.YtmfpnbmfcoahbaaDoorPkSpecMul
import Derived.Test.YtmfpnbmfcoahbaaDoorNum
namespace Go.Proofs.YtmfpnbmfcoahbaaDoor
open Go.RowKit
set_option linter.unusedVariables false

/-- s is the text of n. -/
def Tx (s : ByteArray) (n : Nat) : Prop := canonB s.data.toList = true ∧ dval s.data.toList = n
theorem Tx.size {s : ByteArray} {n k : Nat} (h : Tx s n) (hn : n < 10 ^ k) (hk : 1 ≤ k) : s.size ≤ k := canon_size hk h.1 h.2 hn
theorem Tx.inj {s t : ByteArray} {n : Nat} (h : Tx s n) (g : Tx t n) : s = t := WideShapes.bytes_inj (canon_inj h.1 g.1 (h.2.trans g.2.symm))
theorem Tx.bytes {s : ByteArray} {n : Nat} (h : Tx s n) (l : List UInt8) (hl : canonB l = true) : (s.toList == l) = decide (n = dval l) := by
  by_cases e : n = dval l
  · rw [decide_eq_true e]; exact str_eq (canon_inj h.1 hl (h.2.trans e))
  · rw [decide_eq_false e]; exact str_ne (fun e2 => e (by rw [← h.2, e2]))

theorem ten_mul {x j : Nat} (c k : Nat) (h : x < 10 ^ j) (hc : c ≤ 10 ^ k) : x * c < 10 ^ (j + k) := by
  rw [Nat.pow_add]
  have h1 : x * c ≤ x * 10 ^ k := Nat.mul_le_mul_left _ hc
  have h2 : x * 10 ^ k < 10 ^ j * 10 ^ k := Nat.mul_lt_mul_of_pos_right h (Nat.pow_pos (by decide))
  omega
theorem ten_add {x y j : Nat} (h : x < 10 ^ j) (g : y < 10 ^ j) : x + y < 10 ^ (j + 1) := by rw [Nat.pow_succ]; omega
theorem ten_mono {x j k : Nat} (h : x < 10 ^ j) (hk : j ≤ k) : x < 10 ^ k := Nat.lt_of_lt_of_le h (Nat.pow_le_pow_right (by decide) hk)

theorem addT {a b : ByteArray} {n m : Nat} (w : World) (ha : Tx a n) (hb : Tx b m) (hsa : a.size ≤ 4000) (hsb : b.size ≤ 4000) :
    Calls Tryd.prog 47 #[.string a, .string b] w fun e w' => ∃ s : ByteArray, e = .returned (.string s) ∧ Tx s (n + m) ∧ Below w.heap.size w w' := by
  refine (l1Add_any a b w hsa hsb ha.1 hb.1).mono ?_
  rintro e w' ⟨s, rfl, h1, h2, h3⟩
  exact ⟨s, rfl, ⟨h1, by rw [h2, ha.2, hb.2]⟩, h3⟩
theorem mulT {a b : ByteArray} {n m : Nat} (w : World) (ha : Tx a n) (hb : Tx b m) (hsa : a.size ≤ 600) (hsb : b.size ≤ 600) :
    Calls Tryd.prog 41 #[.string a, .string b] w fun e w' => ∃ s : ByteArray, e = .returned (.string s) ∧ Tx s (n * m) ∧ Below w.heap.size w w' := by
  refine (l1Mul_any a b w hsa hsb ha.1 hb.1).mono ?_
  rintro e w' ⟨s, rfl, h1, h2, h3⟩
  exact ⟨s, rfl, ⟨h1, by rw [h2, ha.2, hb.2]⟩, h3⟩
theorem subT {a b : ByteArray} {n m : Nat} (w : World) (ha : Tx a n) (hb : Tx b m) (hsa : a.size ≤ 4000) (hsb : b.size ≤ 4000) (hle : m ≤ n) :
    Calls Tryd.prog 46 #[.string a, .string b] w fun e w' => ∃ s : ByteArray, e = .returned (.string s) ∧ Tx s (n - m) ∧ Below w.heap.size w w' := by
  refine (l1Sub_any a b w hsa hsb ha.1 hb.1 (by rw [ha.2, hb.2]; exact hle)).mono ?_
  rintro e w' ⟨s, rfl, h1, h2, h3⟩
  exact ⟨s, rfl, ⟨h1, by rw [h2, ha.2, hb.2]⟩, h3⟩
theorem divT {a b : ByteArray} {n m : Nat} (w : World) (ha : Tx a n) (hb : Tx b m) (hsa : a.size ≤ 2000) (hsb : b.size ≤ 2000) (h0 : m ≠ 0) :
    Calls Tryd.prog 42 #[.string a, .string b] w fun e w' => ∃ s t : ByteArray, e = .returned (.tuple #[.string s, .string t]) ∧ Tx s (n / m) ∧ Tx t (n % m) ∧ Below w.heap.size w w' := by
  refine (l1Div_any a b w hsa hsb ha.1 hb.1 (by rw [hb.2]; exact h0)).mono ?_
  rintro e w' ⟨s, t, rfl, h1, h2, h3, h4, h5⟩
  exact ⟨s, t, rfl, ⟨h1, by rw [h2, ha.2, hb.2]⟩, ⟨h3, by rw [h4, ha.2, hb.2]⟩, h5⟩
theorem cmpT {a b : ByteArray} {n m : Nat} (w : World) (ha : Tx a n) (hb : Tx b m) (hsa : a.size ≤ 4000) (hsb : b.size ≤ 4000) :
    Calls Tryd.prog 66 #[.string a, .string b] w fun e w' => e = .returned (.int .i64 (cmpI n m)) ∧ w' = w := by
  refine (l1Compare_any a b w (by unfold maxLen; omega) (by unfold maxLen; omega) ha.1 hb.1).mono ?_
  rintro e w' ⟨rfl, rfl⟩
  exact ⟨by rw [ha.2, hb.2], rfl⟩
theorem numT (d : Nat) (w : World) (hd : d < 10000) :
    Calls Tryd.prog 54 #[.int .i64 (d : Int)] w fun e w' => ∃ s : ByteArray, e = .returned (.string s) ∧ Tx s d ∧ Below w.heap.size w w' := by
  refine (l1Num_any d hd w).mono ?_
  rintro e w' ⟨s, rfl, h1, h2, h3⟩
  exact ⟨s, rfl, ⟨h1, h2⟩, h3⟩
theorem shiftT {a : ByteArray} {n : Nat} (k : Nat) (w : World) (ha : Tx a n) (hsa : a.size ≤ 5000) (hk : k ≤ 5000) :
    Calls Tryd.prog 65 #[.string a, .int .i64 (k : Int)] w fun e w' => ∃ s : ByteArray, e = .returned (.string s) ∧ Tx s (n * 10 ^ k) ∧ Below w.heap.size w w' := by
  refine (laShift_any a k w hsa hk ha.1).mono ?_
  rintro e w' ⟨s, rfl, h1, h2, h3⟩
  exact ⟨s, rfl, ⟨h1, by rw [h2, ha.2]⟩, h3⟩
theorem cutT {a : ByteArray} {n : Nat} (k : Nat) (w : World) (ha : Tx a n) (hsa : a.size ≤ 5000) (h0 : 0 < k) (hk : k ≤ 5000) :
    Calls Tryd.prog 64 #[.string a, .int .i64 (k : Int)] w fun e w' => ∃ s t : ByteArray, e = .returned (.tuple #[.string s, .string t]) ∧ Tx s (n / 10 ^ k) ∧ Tx t (n % 10 ^ k) ∧ Below w.heap.size w w' := by
  refine (laCut_any a k w hsa h0 hk ha.1).mono ?_
  rintro e w' ⟨s, t, rfl, h1, h2, h3, h4, h5⟩
  exact ⟨s, t, rfl, ⟨h1, by rw [h2, ha.2]⟩, ⟨h3, by rw [h4, ha.2]⟩, h5⟩

theorem root_lt {r t p j : Nat} (h : r * r + t = p) (hp : p < 10 ^ (2 * j)) : r < 10 ^ j := by
  rcases Nat.lt_or_ge r (10 ^ j) with h1 | h1
  · exact h1
  · have := Nat.mul_le_mul h1 h1
    rw [← Nat.pow_add, ← Nat.two_mul] at this
    omega
/-- Two digits behind a 1. -/
theorem pair_text {a : ByteArray} (h : a.data.toList.all isDig = true) (i : Nat) (hi : i + 2 ≤ a.size) : ∃ p : Nat, p ≤ 99 ∧ Tx (⟨#[49]⟩ ++ a.extract i (i + 2)) (100 + p) ∧ dval (a.data.toList.take (i + 2)) = 100 * dval (a.data.toList.take i) + p := by
  have hlen : a.data.toList.length = a.size := by simp
  have he : (a.extract i (i + 2)).data.toList = [a.data.toList[i]'(by omega), a.data.toList[i + 1]'(by omega)] := by
    rw [ByteArray.data_extract, Array.toList_extract, List.extract_eq_take_drop, show i + 2 - i = 2 by omega, List.drop_eq_getElem_cons (by omega), List.drop_eq_getElem_cons (by omega)]
    simp
  have h1 : isDig (a.data.toList[i]'(by omega)) = true := List.all_eq_true.1 h _ (List.getElem_mem _)
  have h2 : isDig (a.data.toList[i + 1]'(by omega)) = true := List.all_eq_true.1 h _ (List.getElem_mem _)
  have d1 := dv_lt h1
  have d2 := dv_lt h2
  refine ⟨10 * dv (a.data.toList[i]'(by omega)) + dv (a.data.toList[i + 1]'(by omega)), by omega, ⟨?_, ?_⟩, ?_⟩
  · simp only [ByteArray.data_append, Array.toList_append, he]
    have h49 : isDig 49 = true := by decide
    simp only [List.cons_append, List.nil_append, canonB, List.all_cons, List.all_nil, h1, h2, h49]; rfl
  · simp only [ByteArray.data_append, Array.toList_append, he]
    simp [dval, dv]; omega
  · rw [List.take_succ_eq_append_getElem (by omega), List.take_succ_eq_append_getElem (by omega), dval_snoc, dval_snoc]; omega

/-- A root and what is left. -/
def SqOut (n : Nat) (e : Ending) : Prop := ∃ (s t : ByteArray) (r u : Nat), e = .returned (.tuple #[.string s, .string t]) ∧ Tx s r ∧ Tx t u ∧ r * r + u = n ∧ u ≤ 2 * r
set_option maxHeartbeats 4000000 in
set_option maxRecDepth 100000 in
theorem laSqrt_any (a : ByteArray) (w : World) (hsa : a.size ≤ 600) (ha : canonB a.data.toList = true) :
    Calls Tryd.prog 28 #[.string a] w fun e w' => SqOut (dval a.data.toList) e ∧ Below w.heap.size w w' := by
  have hal : a.data.toList.length = a.size := by simp
  have hap : 0 < a.size := canon_sz ha
  rcases Nat.mod_two_eq_zero_or_one a.size with hpar | hpar
  · obtain ⟨H, hH⟩ : ∃ H, a.size = 2 * H := ⟨a.size / 2, by omega⟩
    obtain ⟨B, hB⟩ : ∃ B, B = a := ⟨_, rfl⟩
    have HSZ : Hid (B.size = 2 * H ∧ H ≤ 301) := by unfold Hid; rw [hB]; omega
    have HD : Hid (B.data.toList.all isDig = true) := by unfold Hid; rw [hB]; exact canon_all ha
    have HV : Hid (dval B.data.toList = dval a.data.toList) := by unfold Hid; rw [hB]
    have hrem : (a.size : Int).tmod 2 = 0 := by rw [Int.tmod_eq_emod_of_nonneg (by omega)]; omega
    have hH2 : H ≤ 301 := HSZ.out.2
    have HBa := hideT hB
    clear hpar hH ha hal
    subst hB
    go_enter Tryd.func28, Tryd.ntmps28
    go_wp2_with fail
    clear hrem
    go_loopg [4, 5, 6] H (fun g vr vt vi wr => ∃ (j r t : Nat) (sr st : ByteArray), g = H - j ∧ j ≤ H ∧ vr = .string sr ∧ vt = .string st ∧ vi = .int .i64 (2 * (j : Int)) ∧ Hid (Tx sr r ∧ Tx st t ∧ r * r + t = dval (B.data.toList.take (2 * j)) ∧ t ≤ 2 * r) ∧ Hid (Below w.heap.size w wr))
    case atStart => exact ⟨0, 0, 0, ⟨#[48]⟩, ⟨#[48]⟩, rfl, by omega, rfl, rfl, rfl, ⟨⟨by decide, by decide⟩, ⟨by decide, by decide⟩, by simp [dval], by omega⟩, Below.refl _ _⟩
    case round =>
      obtain ⟨j, r, t, sr, st, hg, hj, rfl, rfl, rfl, HI, HBL⟩ := hrel
      by_cases hlt : 2 * (j : Int) < (B.size : Int)
      · have hjH : j < H := by have := HSZ.out; omega
        obtain ⟨i2, hi2⟩ : ∃ i2 : Nat, i2 = 2 * j := ⟨_, rfl⟩
        obtain ⟨pv, hpv, hpt, hpd⟩ := pair_text HD.out (2 * j) (by have := HSZ.out; omega)
        have hP : dval (B.data.toList.take (2 * j)) < 10 ^ (2 * j) := by
          have h1 := dval_lt (B.data.toList.take (2 * j)) (by rw [List.all_eq_true]; intro x hx; exact List.all_eq_true.1 HD.out x (List.mem_of_mem_take hx))
          rwa [List.length_take, Nat.min_eq_left (by have := HSZ.out; have h5 : B.data.toList.length = B.size := by simp
                                                     omega)] at h1
        have hr0 := root_lt HI.out.2.2.1 hP
        have ht0 : t < 10 ^ (j + 1) := Nat.lt_of_le_of_lt HI.out.2.2.2 (by have := ten_mul 2 1 hr0 (by decide); omega)
        have HBD : Hid (r < 10 ^ j ∧ t < 10 ^ (j + 1) ∧ j ≤ 300 ∧ pv ≤ 99) := ⟨hr0, ht0, by omega, hpv⟩
        have hsr : sr.size ≤ 310 := Nat.le_trans (HI.out.1.size (ten_mono hr0 (Nat.le_succ j)) (by omega)) (by omega)
        have hst : st.size ≤ 310 := Nat.le_trans (HI.out.2.1.size ht0 (by omega)) (by omega)
        have HPT : Hid (Tx (⟨#[49]⟩ ++ B.extract (2 * j) (2 * j + 2)) (100 + pv)) := hpt
        have hps : (⟨#[49]⟩ ++ B.extract (2 * j) (2 * j + 2)).size ≤ 3 := hpt.size (by omega) (by omega)
        have HPD := hideT hpd
        have hwj : IntKind.i64.wrap (2 * (j : Int) + 2) = ((2 * j + 2 : Nat) : Int) := by rw [IntKind.wrap_i64]; omega
        rw [← hi2] at HPT hps hwj
        have e2j : 2 * (j : Int) = (i2 : Int) := by omega
        rw [e2j] at hlt hwj ⊢
        obtain ⟨i3, hi3⟩ : ∃ i3 : Nat, i3 = i2 + 2 := ⟨_, rfl⟩
        rw [← hi3] at HPT hps hwj
        have hb3 : (i3 : Int) ≤ (B.size : Int) := by have := HSZ.out; omega
        have hb2 : (i2 : Int) ≤ (i3 : Int) := by omega
        have hex : (B.extract i2 i3).size ≤ 2 := by simp [ByteArray.size_extract]; omega
        have hadd : ¬ 9223372036854775807 < (⟨#[49]⟩ : ByteArray).size + (B.extract i2 i3).size := by have : (⟨#[49]⟩ : ByteArray).size = 1 := rfl; omega
        have HI23 := hideT (And.intro hi2 hi3)
        clear hpv hpt hpd hP hr0 ht0 hi2 hi3 e2j hex
        go_wp2_with fail
        refine (cutT 2 _ HPT.out (by omega) (by omega) (by omega)).mono ?_
        rintro e w1 ⟨s1, t1, rfl, _, hT1, hW1⟩
        have hB1 : Below w.heap.size w w1 := HBL.out.trans (hW1.mono HBL.out.size)
        have HT1 : Hid (Tx t1 pv) := by
          have h1 := HBD.out.2.2.2
          have : (100 + pv) % 10 ^ 2 = pv := by rw [show (10 : Nat) ^ 2 = 100 from rfl]; omega
          rw [this] at hT1; exact hT1
        have hst1 : t1.size ≤ 2 := HT1.out.size (by have := HBD.out.2.2.2; rw [show (10 : Nat) ^ 2 = 100 from rfl]; omega) (by omega)
        have hs1 := hB1.size
        clear hT1 hW1
        go_wp2_with fail
        refine (shiftT 2 _ HI.out.2.1 (by omega) (by omega)).mono ?_
        rintro e w2 ⟨s2, rfl, hT2, hW2⟩
        have hss2 : s2.size ≤ 310 := Nat.le_trans (hT2.size (ten_mul (10 ^ 2) 2 HBD.out.2.1 (Nat.le_refl _)) (by omega)) (by have := HBD.out.2.2.1; omega)
        have HT2 := hideT hT2
        have hB2 : Below w.heap.size w w2 := hB1.trans (hW2.mono hs1)
        have hs2 := hB2.size
        clear hT2 hW2
        go_wp2_with fail
        refine (addT _ HT2.out HT1.out (by omega) (by omega)).mono ?_
        rintro e w3 ⟨s3, rfl, hT3, hW3⟩
        have hT3' : Tx s3 (100 * t + pv) := by rw [show (10 : Nat) ^ 2 = 100 from rfl, Nat.mul_comm] at hT3; exact hT3
        have HT3 := hideT hT3'
        have hlt3 : 100 * t + pv < 10 ^ (j + 1 + 2 + 1) := by
          have h1 := ten_mul 100 2 HBD.out.2.1 (by decide)
          have h2 : pv < 10 ^ (j + 1 + 2) := ten_mono (j := 2) (by have := HBD.out.2.2.2; rw [show (10 : Nat) ^ 2 = 100 from rfl]; omega) (by omega)
          have h3 := ten_add h1 h2
          rw [Nat.mul_comm] at h3; exact h3
        have HL3 := hideT hlt3
        have hss3 : s3.size ≤ 310 := Nat.le_trans (hT3'.size hlt3 (by omega)) (by have := HBD.out.2.2.1; omega)
        have hB3 : Below w.heap.size w w3 := hB2.trans (hW3.mono hs2)
        have hs3 := hB3.size
        clear hT3 hT3' hlt3 hW3
        have H20 : Hid (Tx ⟨#[50, 48]⟩ 20) := ⟨by decide, by decide⟩
        go_wp2_with fail
        refine (mulT _ HI.out.1 H20.out (by omega) (by decide)).mono ?_
        rintro e w4 ⟨s4, rfl, hT4, hW4⟩
        have HT4 := hideT hT4
        have HL4 := hideT (ten_mul 20 2 HBD.out.1 (by decide))
        have hss4 : s4.size ≤ 310 := Nat.le_trans (hT4.size HL4.out (by omega)) (by have := HBD.out.2.2.1; omega)
        have hB4 : Below w.heap.size w w4 := hB3.trans (hW4.mono hs3)
        have hs4 := hB4.size
        clear hT4 hW4
        go_wp2_with fail
        go_loopg [9] 9 (fun g vd wi => ∃ d : Nat, g = d ∧ d ≤ 9 ∧ vd = .int .i64 (d : Int) ∧ Hid (d = 9 ∨ 100 * t + pv < (20 * r + (d + 1)) * (d + 1)) ∧ Hid (Below w.heap.size w wi))
        case atStart => exact ⟨9, rfl, by omega, rfl, .inl rfl, hB4⟩
        case round =>
          obtain ⟨d, hgd, hd9, rfl, HD9, HBI⟩ := hrel
          have hbi := HBI.out.size
          have hd9' : (d : Int) ≤ 9 := by omega
          by_cases hd0 : (0 : Int) < (d : Int)
          · have BLW := HBI.out
            go_wp2_with fail
            refine (numT d _ (by omega)).mono ?_
            rintro e x1 ⟨y1, rfl, hY1, hX1⟩
            have hsy1 : y1.size ≤ 1 := hY1.size (by omega) (by omega)
            have HY1 := hideT hY1
            have hC1 : Below w.heap.size w x1 := BLW.trans (hX1.mono BLW.size)
            have hc1 := hC1.size
            clear hY1 hX1
            go_wp2_with fail
            refine (addT _ HT4.out HY1.out (by omega) (by omega)).mono ?_
            rintro e x2 ⟨y2, rfl, hY2, hX2⟩
            have HL5 := hideT (show r * 20 + d < 10 ^ (j + 2 + 1) from ten_add HL4.out (ten_mono (j := 1) (by omega) (by omega)))
            have hsy2 : y2.size ≤ 310 := Nat.le_trans (hY2.size HL5.out (by omega)) (by have := HBD.out.2.2.1; omega)
            have HY2 := hideT hY2
            have hC2 : Below w.heap.size w x2 := hC1.trans (hX2.mono hc1)
            have hc2 := hC2.size
            clear hY2 hX2
            go_wp2_with fail
            refine (numT d _ (by omega)).mono ?_
            rintro e x3 ⟨y3, rfl, hY3, hX3⟩
            have hsy3 : y3.size ≤ 1 := hY3.size (by omega) (by omega)
            have HY3 := hideT hY3
            have hC3 : Below w.heap.size w x3 := hC2.trans (hX3.mono hc2)
            have hc3 := hC3.size
            clear hY3 hX3
            go_wp2_with fail
            refine (mulT _ HY2.out HY3.out (by omega) (by omega)).mono ?_
            rintro e x4 ⟨y4, rfl, hY4, hX4⟩
            have hsy4 : y4.size ≤ 310 := Nat.le_trans (hY4.size (ten_mul d 1 HL5.out (by omega)) (by omega)) (by have := HBD.out.2.2.1; omega)
            have HY4 : Hid (Tx y4 ((20 * r + d) * d)) := by rw [Nat.mul_comm r 20] at hY4; exact hY4
            have hC4 : Below w.heap.size w x4 := hC3.trans (hX4.mono hc3)
            have hc4 := hC4.size
            clear hY4 hX4
            go_wp2_with fail
            refine (cmpT _ HY4.out HT3.out (by omega) (by omega)).mono ?_
            rintro e x5 ⟨rfl, rfl⟩
            by_cases hcm : 100 * t + pv < (20 * r + d) * d
            · have hc1' : cmpI (((20 * r + d) * d : Nat) : Int) ((100 * t + pv : Nat) : Int) = 1 := cmpI_gt (by exact_mod_cast hcm)
              have HCM := hideT hcm
              clear hcm
              rw [hc1']
              clear hc1'
              go_wp2
              go_roundg (d - 1)
              case measure => omega
              case rel =>
                refine ⟨d - 1, rfl, by omega, by rw [show ((d - 1 : Nat) : Int) = (d : Int) - 1 by omega], .inr ?_, hC4⟩
                rw [show d - 1 + 1 = d by omega]; exact HCM.out
            · have HLE : Hid ((20 * r + d) * d ≤ 100 * t + pv) := Nat.not_lt.1 hcm
              obtain ⟨cv, hcv⟩ : ∃ cv, cv = cmpI (((20 * r + d) * d : Nat) : Int) ((100 * t + pv : Nat) : Int) := ⟨_, rfl⟩
              have hcv0 : cv ≤ 0 := by
                have h9 : ¬ ((100 * t + pv : Nat) : Int) < (((20 * r + d) * d : Nat) : Int) := by exact_mod_cast hcm
                rw [hcv]; unfold cmpI; rw [if_neg h9]; split <;> decide
              rw [← hcv]
              clear hcm hcv HY1 HY2 HY3 HY4
              have hC4' := hC4
              clear hC1 hC2 hC3 hC4 hc1 hc2 hc3 hc4 hsy1 hsy2 hsy3 hsy4 BLW
              have BLW := hC4'
              go_wp2_with fail
              refine (numT d _ (by omega)).mono ?_
              rintro e x1 ⟨y1, rfl, hY1, hX1⟩
              have hsy1 : y1.size ≤ 1 := hY1.size (by omega) (by omega)
              have HY1 := hideT hY1
              have hC1 : Below w.heap.size w x1 := BLW.trans (hX1.mono BLW.size)
              have hc1 := hC1.size
              clear hY1 hX1
              go_wp2_with fail
              refine (addT _ HT4.out HY1.out (by omega) (by omega)).mono ?_
              rintro e x2 ⟨y2, rfl, hY2, hX2⟩
              have HL5 := hideT (show r * 20 + d < 10 ^ (j + 2 + 1) from ten_add HL4.out (ten_mono (j := 1) (by omega) (by omega)))
              have hsy2 : y2.size ≤ 310 := Nat.le_trans (hY2.size HL5.out (by omega)) (by have := HBD.out.2.2.1; omega)
              have HY2 := hideT hY2
              have hC2 : Below w.heap.size w x2 := hC1.trans (hX2.mono hc1)
              have hc2 := hC2.size
              clear hY2 hX2
              go_wp2_with fail
              refine (numT d _ (by omega)).mono ?_
              rintro e x3 ⟨y3, rfl, hY3, hX3⟩
              have hsy3 : y3.size ≤ 1 := hY3.size (by omega) (by omega)
              have HY3 := hideT hY3
              have hC3 : Below w.heap.size w x3 := hC2.trans (hX3.mono hc2)
              have hc3 := hC3.size
              clear hY3 hX3
              go_wp2_with fail
              refine (mulT _ HY2.out HY3.out (by omega) (by omega)).mono ?_
              rintro e x4 ⟨y4, rfl, hY4, hX4⟩
              have hsy4 : y4.size ≤ 310 := Nat.le_trans (hY4.size (ten_mul d 1 HL5.out (by omega)) (by omega)) (by have := HBD.out.2.2.1; omega)
              have HY4 : Hid (Tx y4 ((20 * r + d) * d)) := by rw [Nat.mul_comm r 20] at hY4; exact hY4
              have hC4 : Below w.heap.size w x4 := hC3.trans (hX4.mono hc3)
              have hc4 := hC4.size
              clear hY4 hX4
              go_wp2_with fail
              refine (subT _ HT3.out HY4.out (by omega) (by omega) HLE.out).mono ?_
              rintro e x5 ⟨y5, rfl, hY5, hX5⟩
              have HY5 := hideT hY5
              have hC5 : Below w.heap.size w x5 := hC4.trans (hX5.mono hc4)
              have hc5 := hC5.size
              clear hY5 hX5
              go_wp2_with fail
              refine (shiftT 1 _ HI.out.1 (by omega) (by omega)).mono ?_
              rintro e x6 ⟨y6, rfl, hY6, hX6⟩
              have hsy6 : y6.size ≤ 310 := Nat.le_trans (hY6.size (ten_mul (10 ^ 1) 1 HBD.out.1 (Nat.le_refl _)) (by omega)) (by have := HBD.out.2.2.1; omega)
              have HY6 := hideT hY6
              have hC6 : Below w.heap.size w x6 := hC5.trans (hX6.mono hc5)
              have hc6 := hC6.size
              clear hY6 hX6
              go_wp2_with fail
              refine (numT d _ (by omega)).mono ?_
              rintro e x7 ⟨y7, rfl, hY7, hX7⟩
              have hsy7 : y7.size ≤ 1 := hY7.size (by omega) (by omega)
              have HY7 := hideT hY7
              have hC7 : Below w.heap.size w x7 := hC6.trans (hX7.mono hc6)
              have hc7 := hC7.size
              clear hY7 hX7
              go_wp2_with fail
              refine (addT _ HY6.out HY7.out (by omega) (by omega)).mono ?_
              rintro e x8 ⟨y8, rfl, hY8, hX8⟩
              have hC8 : Below w.heap.size w x8 := hC7.trans (hX8.mono hc7)
              have HY8 : Hid (Tx y8 (10 * r + d)) := by rw [Nat.pow_one, Nat.mul_comm r 10] at hY8; exact hY8
              clear hY8 hX8
              go_wp2
              go_roundg (H - (j + 1))
              case measure => omega
              case rel =>
                have hst := root_step (dval (B.data.toList.take (2 * j))) HI.out.2.2.1 HI.out.2.2.2 HBD.out.2.2.2 HLE.out hd9 HD9.out
                have e2 : 2 * (j + 1) = 2 * j + 2 := by omega
                refine ⟨j + 1, 10 * r + d, 100 * t + pv - (20 * r + d) * d, y8, y5, rfl, by omega, rfl, rfl, by have h9 := HI23.out; congr 1; omega, ⟨HY8.out, HY5.out, by rw [e2, HPD.out]; exact hst.1, hst.2⟩, hC8⟩
          · have hd00 : d = 0 := by omega
            have HLE : Hid ((20 * r + d) * d ≤ 100 * t + pv) := by unfold Hid; rw [hd00]; simp
            have BLW := HBI.out
            clear hd00
            go_wp2_with fail
            refine (numT d _ (by omega)).mono ?_
            rintro e x1 ⟨y1, rfl, hY1, hX1⟩
            have hsy1 : y1.size ≤ 1 := hY1.size (by omega) (by omega)
            have HY1 := hideT hY1
            have hC1 : Below w.heap.size w x1 := BLW.trans (hX1.mono BLW.size)
            have hc1 := hC1.size
            clear hY1 hX1
            go_wp2_with fail
            refine (addT _ HT4.out HY1.out (by omega) (by omega)).mono ?_
            rintro e x2 ⟨y2, rfl, hY2, hX2⟩
            have HL5 := hideT (show r * 20 + d < 10 ^ (j + 2 + 1) from ten_add HL4.out (ten_mono (j := 1) (by omega) (by omega)))
            have hsy2 : y2.size ≤ 310 := Nat.le_trans (hY2.size HL5.out (by omega)) (by have := HBD.out.2.2.1; omega)
            have HY2 := hideT hY2
            have hC2 : Below w.heap.size w x2 := hC1.trans (hX2.mono hc1)
            have hc2 := hC2.size
            clear hY2 hX2
            go_wp2_with fail
            refine (numT d _ (by omega)).mono ?_
            rintro e x3 ⟨y3, rfl, hY3, hX3⟩
            have hsy3 : y3.size ≤ 1 := hY3.size (by omega) (by omega)
            have HY3 := hideT hY3
            have hC3 : Below w.heap.size w x3 := hC2.trans (hX3.mono hc2)
            have hc3 := hC3.size
            clear hY3 hX3
            go_wp2_with fail
            refine (mulT _ HY2.out HY3.out (by omega) (by omega)).mono ?_
            rintro e x4 ⟨y4, rfl, hY4, hX4⟩
            have hsy4 : y4.size ≤ 310 := Nat.le_trans (hY4.size (ten_mul d 1 HL5.out (by omega)) (by omega)) (by have := HBD.out.2.2.1; omega)
            have HY4 : Hid (Tx y4 ((20 * r + d) * d)) := by rw [Nat.mul_comm r 20] at hY4; exact hY4
            have hC4 : Below w.heap.size w x4 := hC3.trans (hX4.mono hc3)
            have hc4 := hC4.size
            clear hY4 hX4
            go_wp2_with fail
            refine (subT _ HT3.out HY4.out (by omega) (by omega) HLE.out).mono ?_
            rintro e x5 ⟨y5, rfl, hY5, hX5⟩
            have HY5 := hideT hY5
            have hC5 : Below w.heap.size w x5 := hC4.trans (hX5.mono hc4)
            have hc5 := hC5.size
            clear hY5 hX5
            go_wp2_with fail
            refine (shiftT 1 _ HI.out.1 (by omega) (by omega)).mono ?_
            rintro e x6 ⟨y6, rfl, hY6, hX6⟩
            have hsy6 : y6.size ≤ 310 := Nat.le_trans (hY6.size (ten_mul (10 ^ 1) 1 HBD.out.1 (Nat.le_refl _)) (by omega)) (by have := HBD.out.2.2.1; omega)
            have HY6 := hideT hY6
            have hC6 : Below w.heap.size w x6 := hC5.trans (hX6.mono hc5)
            have hc6 := hC6.size
            clear hY6 hX6
            go_wp2_with fail
            refine (numT d _ (by omega)).mono ?_
            rintro e x7 ⟨y7, rfl, hY7, hX7⟩
            have hsy7 : y7.size ≤ 1 := hY7.size (by omega) (by omega)
            have HY7 := hideT hY7
            have hC7 : Below w.heap.size w x7 := hC6.trans (hX7.mono hc6)
            have hc7 := hC7.size
            clear hY7 hX7
            go_wp2_with fail
            refine (addT _ HY6.out HY7.out (by omega) (by omega)).mono ?_
            rintro e x8 ⟨y8, rfl, hY8, hX8⟩
            have hC8 : Below w.heap.size w x8 := hC7.trans (hX8.mono hc7)
            have HY8 : Hid (Tx y8 (10 * r + d)) := by rw [Nat.pow_one, Nat.mul_comm r 10] at hY8; exact hY8
            clear hY8 hX8
            go_wp2
            go_roundg (H - (j + 1))
            case measure => omega
            case rel =>
              have hst := root_step (dval (B.data.toList.take (2 * j))) HI.out.2.2.1 HI.out.2.2.2 HBD.out.2.2.2 HLE.out hd9 HD9.out
              have e2 : 2 * (j + 1) = 2 * j + 2 := by omega
              refine ⟨j + 1, 10 * r + d, 100 * t + pv - (20 * r + d) * d, y8, y5, rfl, by omega, rfl, rfl, by have h9 := HI23.out; congr 1; omega, ⟨HY8.out, HY5.out, by rw [e2, HPD.out]; exact hst.1, hst.2⟩, hC8⟩
      · have hjH : j = H := by have := HSZ.out; omega
        have HE : Hid (r * r + t = dval B.data.toList) := by
          unfold Hid
          rw [HI.out.2.2.1, List.take_of_length_le (by rw [show B.data.toList.length = B.size by simp]; have h6 := HSZ.out; omega)]
        clear hjH
        go_wp2
        go_ret2
        exact ⟨⟨sr, st, r, t, rfl, HI.out.1, HI.out.2.1, HE.out, HI.out.2.2.2⟩, HBL.out⟩
  · obtain ⟨H, hH⟩ : ∃ H, a.size + 1 = 2 * H := ⟨(a.size + 1) / 2, by omega⟩
    obtain ⟨B, hB⟩ : ∃ B : ByteArray, B = ⟨#[48]⟩ ++ a := ⟨_, rfl⟩
    have hBl : B.data.toList = 48 :: a.data.toList := by rw [hB]; simp
    have hBs : B.size = a.size + 1 := by
      have h1 : B.data.toList.length = B.size := by simp
      rw [← h1, hBl, List.length_cons, hal]
    have HSZ : Hid (B.size = 2 * H ∧ H ≤ 301) := by unfold Hid; omega
    have HD : Hid (B.data.toList.all isDig = true) := by
      unfold Hid; rw [hBl, List.all_cons, canon_all ha]; decide
    have HV : Hid (dval B.data.toList = dval a.data.toList) := by
      unfold Hid; rw [hBl, dval_cons, show dv 48 = 0 from rfl, Nat.zero_mul, Nat.zero_add]
    have hrem : (a.size : Int).tmod 2 = 1 := by rw [Int.tmod_eq_emod_of_nonneg (by omega)]; omega
    have hadd0 : ¬ 9223372036854775807 < (⟨#[48]⟩ : ByteArray).size + a.size := by have : (⟨#[48]⟩ : ByteArray).size = 1 := rfl; omega
    have hH2 : H ≤ 301 := HSZ.out.2
    have HBa := hideT hB
    clear hpar hH ha hal hB hBl hBs
    go_enter Tryd.func28, Tryd.ntmps28
    go_wp2_with fail
    rw [← HBa.out]
    clear hrem hadd0
    go_loopg [4, 5, 6] H (fun g vr vt vi wr => ∃ (j r t : Nat) (sr st : ByteArray), g = H - j ∧ j ≤ H ∧ vr = .string sr ∧ vt = .string st ∧ vi = .int .i64 (2 * (j : Int)) ∧ Hid (Tx sr r ∧ Tx st t ∧ r * r + t = dval (B.data.toList.take (2 * j)) ∧ t ≤ 2 * r) ∧ Hid (Below w.heap.size w wr))
    case atStart => exact ⟨0, 0, 0, ⟨#[48]⟩, ⟨#[48]⟩, rfl, by omega, rfl, rfl, rfl, ⟨⟨by decide, by decide⟩, ⟨by decide, by decide⟩, by simp [dval], by omega⟩, Below.refl _ _⟩
    case round =>
      obtain ⟨j, r, t, sr, st, hg, hj, rfl, rfl, rfl, HI, HBL⟩ := hrel
      by_cases hlt : 2 * (j : Int) < (B.size : Int)
      · have hjH : j < H := by have := HSZ.out; omega
        obtain ⟨i2, hi2⟩ : ∃ i2 : Nat, i2 = 2 * j := ⟨_, rfl⟩
        obtain ⟨pv, hpv, hpt, hpd⟩ := pair_text HD.out (2 * j) (by have := HSZ.out; omega)
        have hP : dval (B.data.toList.take (2 * j)) < 10 ^ (2 * j) := by
          have h1 := dval_lt (B.data.toList.take (2 * j)) (by rw [List.all_eq_true]; intro x hx; exact List.all_eq_true.1 HD.out x (List.mem_of_mem_take hx))
          rwa [List.length_take, Nat.min_eq_left (by have := HSZ.out; have h5 : B.data.toList.length = B.size := by simp
                                                     omega)] at h1
        have hr0 := root_lt HI.out.2.2.1 hP
        have ht0 : t < 10 ^ (j + 1) := Nat.lt_of_le_of_lt HI.out.2.2.2 (by have := ten_mul 2 1 hr0 (by decide); omega)
        have HBD : Hid (r < 10 ^ j ∧ t < 10 ^ (j + 1) ∧ j ≤ 300 ∧ pv ≤ 99) := ⟨hr0, ht0, by omega, hpv⟩
        have hsr : sr.size ≤ 310 := Nat.le_trans (HI.out.1.size (ten_mono hr0 (Nat.le_succ j)) (by omega)) (by omega)
        have hst : st.size ≤ 310 := Nat.le_trans (HI.out.2.1.size ht0 (by omega)) (by omega)
        have HPT : Hid (Tx (⟨#[49]⟩ ++ B.extract (2 * j) (2 * j + 2)) (100 + pv)) := hpt
        have hps : (⟨#[49]⟩ ++ B.extract (2 * j) (2 * j + 2)).size ≤ 3 := hpt.size (by omega) (by omega)
        have HPD := hideT hpd
        have hwj : IntKind.i64.wrap (2 * (j : Int) + 2) = ((2 * j + 2 : Nat) : Int) := by rw [IntKind.wrap_i64]; omega
        rw [← hi2] at HPT hps hwj
        have e2j : 2 * (j : Int) = (i2 : Int) := by omega
        rw [e2j] at hlt hwj ⊢
        obtain ⟨i3, hi3⟩ : ∃ i3 : Nat, i3 = i2 + 2 := ⟨_, rfl⟩
        rw [← hi3] at HPT hps hwj
        have hb3 : (i3 : Int) ≤ (B.size : Int) := by have := HSZ.out; omega
        have hb2 : (i2 : Int) ≤ (i3 : Int) := by omega
        have hex : (B.extract i2 i3).size ≤ 2 := by simp [ByteArray.size_extract]; omega
        have hadd : ¬ 9223372036854775807 < (⟨#[49]⟩ : ByteArray).size + (B.extract i2 i3).size := by have : (⟨#[49]⟩ : ByteArray).size = 1 := rfl; omega
        have HI23 := hideT (And.intro hi2 hi3)
        clear hpv hpt hpd hP hr0 ht0 hi2 hi3 e2j hex
        go_wp2_with fail
        refine (cutT 2 _ HPT.out (by omega) (by omega) (by omega)).mono ?_
        rintro e w1 ⟨s1, t1, rfl, _, hT1, hW1⟩
        have hB1 : Below w.heap.size w w1 := HBL.out.trans (hW1.mono HBL.out.size)
        have HT1 : Hid (Tx t1 pv) := by
          have h1 := HBD.out.2.2.2
          have : (100 + pv) % 10 ^ 2 = pv := by rw [show (10 : Nat) ^ 2 = 100 from rfl]; omega
          rw [this] at hT1; exact hT1
        have hst1 : t1.size ≤ 2 := HT1.out.size (by have := HBD.out.2.2.2; rw [show (10 : Nat) ^ 2 = 100 from rfl]; omega) (by omega)
        have hs1 := hB1.size
        clear hT1 hW1
        go_wp2_with fail
        refine (shiftT 2 _ HI.out.2.1 (by omega) (by omega)).mono ?_
        rintro e w2 ⟨s2, rfl, hT2, hW2⟩
        have hss2 : s2.size ≤ 310 := Nat.le_trans (hT2.size (ten_mul (10 ^ 2) 2 HBD.out.2.1 (Nat.le_refl _)) (by omega)) (by have := HBD.out.2.2.1; omega)
        have HT2 := hideT hT2
        have hB2 : Below w.heap.size w w2 := hB1.trans (hW2.mono hs1)
        have hs2 := hB2.size
        clear hT2 hW2
        go_wp2_with fail
        refine (addT _ HT2.out HT1.out (by omega) (by omega)).mono ?_
        rintro e w3 ⟨s3, rfl, hT3, hW3⟩
        have hT3' : Tx s3 (100 * t + pv) := by rw [show (10 : Nat) ^ 2 = 100 from rfl, Nat.mul_comm] at hT3; exact hT3
        have HT3 := hideT hT3'
        have hlt3 : 100 * t + pv < 10 ^ (j + 1 + 2 + 1) := by
          have h1 := ten_mul 100 2 HBD.out.2.1 (by decide)
          have h2 : pv < 10 ^ (j + 1 + 2) := ten_mono (j := 2) (by have := HBD.out.2.2.2; rw [show (10 : Nat) ^ 2 = 100 from rfl]; omega) (by omega)
          have h3 := ten_add h1 h2
          rw [Nat.mul_comm] at h3; exact h3
        have HL3 := hideT hlt3
        have hss3 : s3.size ≤ 310 := Nat.le_trans (hT3'.size hlt3 (by omega)) (by have := HBD.out.2.2.1; omega)
        have hB3 : Below w.heap.size w w3 := hB2.trans (hW3.mono hs2)
        have hs3 := hB3.size
        clear hT3 hT3' hlt3 hW3
        have H20 : Hid (Tx ⟨#[50, 48]⟩ 20) := ⟨by decide, by decide⟩
        go_wp2_with fail
        refine (mulT _ HI.out.1 H20.out (by omega) (by decide)).mono ?_
        rintro e w4 ⟨s4, rfl, hT4, hW4⟩
        have HT4 := hideT hT4
        have HL4 := hideT (ten_mul 20 2 HBD.out.1 (by decide))
        have hss4 : s4.size ≤ 310 := Nat.le_trans (hT4.size HL4.out (by omega)) (by have := HBD.out.2.2.1; omega)
        have hB4 : Below w.heap.size w w4 := hB3.trans (hW4.mono hs3)
        have hs4 := hB4.size
        clear hT4 hW4
        go_wp2_with fail
        go_loopg [9] 9 (fun g vd wi => ∃ d : Nat, g = d ∧ d ≤ 9 ∧ vd = .int .i64 (d : Int) ∧ Hid (d = 9 ∨ 100 * t + pv < (20 * r + (d + 1)) * (d + 1)) ∧ Hid (Below w.heap.size w wi))
        case atStart => exact ⟨9, rfl, by omega, rfl, .inl rfl, hB4⟩
        case round =>
          obtain ⟨d, hgd, hd9, rfl, HD9, HBI⟩ := hrel
          have hbi := HBI.out.size
          have hd9' : (d : Int) ≤ 9 := by omega
          by_cases hd0 : (0 : Int) < (d : Int)
          · have BLW := HBI.out
            go_wp2_with fail
            refine (numT d _ (by omega)).mono ?_
            rintro e x1 ⟨y1, rfl, hY1, hX1⟩
            have hsy1 : y1.size ≤ 1 := hY1.size (by omega) (by omega)
            have HY1 := hideT hY1
            have hC1 : Below w.heap.size w x1 := BLW.trans (hX1.mono BLW.size)
            have hc1 := hC1.size
            clear hY1 hX1
            go_wp2_with fail
            refine (addT _ HT4.out HY1.out (by omega) (by omega)).mono ?_
            rintro e x2 ⟨y2, rfl, hY2, hX2⟩
            have HL5 := hideT (show r * 20 + d < 10 ^ (j + 2 + 1) from ten_add HL4.out (ten_mono (j := 1) (by omega) (by omega)))
            have hsy2 : y2.size ≤ 310 := Nat.le_trans (hY2.size HL5.out (by omega)) (by have := HBD.out.2.2.1; omega)
            have HY2 := hideT hY2
            have hC2 : Below w.heap.size w x2 := hC1.trans (hX2.mono hc1)
            have hc2 := hC2.size
            clear hY2 hX2
            go_wp2_with fail
            refine (numT d _ (by omega)).mono ?_
            rintro e x3 ⟨y3, rfl, hY3, hX3⟩
            have hsy3 : y3.size ≤ 1 := hY3.size (by omega) (by omega)
            have HY3 := hideT hY3
            have hC3 : Below w.heap.size w x3 := hC2.trans (hX3.mono hc2)
            have hc3 := hC3.size
            clear hY3 hX3
            go_wp2_with fail
            refine (mulT _ HY2.out HY3.out (by omega) (by omega)).mono ?_
            rintro e x4 ⟨y4, rfl, hY4, hX4⟩
            have hsy4 : y4.size ≤ 310 := Nat.le_trans (hY4.size (ten_mul d 1 HL5.out (by omega)) (by omega)) (by have := HBD.out.2.2.1; omega)
            have HY4 : Hid (Tx y4 ((20 * r + d) * d)) := by rw [Nat.mul_comm r 20] at hY4; exact hY4
            have hC4 : Below w.heap.size w x4 := hC3.trans (hX4.mono hc3)
            have hc4 := hC4.size
            clear hY4 hX4
            go_wp2_with fail
            refine (cmpT _ HY4.out HT3.out (by omega) (by omega)).mono ?_
            rintro e x5 ⟨rfl, rfl⟩
            by_cases hcm : 100 * t + pv < (20 * r + d) * d
            · have hc1' : cmpI (((20 * r + d) * d : Nat) : Int) ((100 * t + pv : Nat) : Int) = 1 := cmpI_gt (by exact_mod_cast hcm)
              have HCM := hideT hcm
              clear hcm
              rw [hc1']
              clear hc1'
              go_wp2
              go_roundg (d - 1)
              case measure => omega
              case rel =>
                refine ⟨d - 1, rfl, by omega, by rw [show ((d - 1 : Nat) : Int) = (d : Int) - 1 by omega], .inr ?_, hC4⟩
                rw [show d - 1 + 1 = d by omega]; exact HCM.out
            · have HLE : Hid ((20 * r + d) * d ≤ 100 * t + pv) := Nat.not_lt.1 hcm
              obtain ⟨cv, hcv⟩ : ∃ cv, cv = cmpI (((20 * r + d) * d : Nat) : Int) ((100 * t + pv : Nat) : Int) := ⟨_, rfl⟩
              have hcv0 : cv ≤ 0 := by
                have h9 : ¬ ((100 * t + pv : Nat) : Int) < (((20 * r + d) * d : Nat) : Int) := by exact_mod_cast hcm
                rw [hcv]; unfold cmpI; rw [if_neg h9]; split <;> decide
              rw [← hcv]
              clear hcm hcv HY1 HY2 HY3 HY4
              have hC4' := hC4
              clear hC1 hC2 hC3 hC4 hc1 hc2 hc3 hc4 hsy1 hsy2 hsy3 hsy4 BLW
              have BLW := hC4'
              go_wp2_with fail
              refine (numT d _ (by omega)).mono ?_
              rintro e x1 ⟨y1, rfl, hY1, hX1⟩
              have hsy1 : y1.size ≤ 1 := hY1.size (by omega) (by omega)
              have HY1 := hideT hY1
              have hC1 : Below w.heap.size w x1 := BLW.trans (hX1.mono BLW.size)
              have hc1 := hC1.size
              clear hY1 hX1
              go_wp2_with fail
              refine (addT _ HT4.out HY1.out (by omega) (by omega)).mono ?_
              rintro e x2 ⟨y2, rfl, hY2, hX2⟩
              have HL5 := hideT (show r * 20 + d < 10 ^ (j + 2 + 1) from ten_add HL4.out (ten_mono (j := 1) (by omega) (by omega)))
              have hsy2 : y2.size ≤ 310 := Nat.le_trans (hY2.size HL5.out (by omega)) (by have := HBD.out.2.2.1; omega)
              have HY2 := hideT hY2
              have hC2 : Below w.heap.size w x2 := hC1.trans (hX2.mono hc1)
              have hc2 := hC2.size
              clear hY2 hX2
              go_wp2_with fail
              refine (numT d _ (by omega)).mono ?_
              rintro e x3 ⟨y3, rfl, hY3, hX3⟩
              have hsy3 : y3.size ≤ 1 := hY3.size (by omega) (by omega)
              have HY3 := hideT hY3
              have hC3 : Below w.heap.size w x3 := hC2.trans (hX3.mono hc2)
              have hc3 := hC3.size
              clear hY3 hX3
              go_wp2_with fail
              refine (mulT _ HY2.out HY3.out (by omega) (by omega)).mono ?_
              rintro e x4 ⟨y4, rfl, hY4, hX4⟩
              have hsy4 : y4.size ≤ 310 := Nat.le_trans (hY4.size (ten_mul d 1 HL5.out (by omega)) (by omega)) (by have := HBD.out.2.2.1; omega)
              have HY4 : Hid (Tx y4 ((20 * r + d) * d)) := by rw [Nat.mul_comm r 20] at hY4; exact hY4
              have hC4 : Below w.heap.size w x4 := hC3.trans (hX4.mono hc3)
              have hc4 := hC4.size
              clear hY4 hX4
              go_wp2_with fail
              refine (subT _ HT3.out HY4.out (by omega) (by omega) HLE.out).mono ?_
              rintro e x5 ⟨y5, rfl, hY5, hX5⟩
              have HY5 := hideT hY5
              have hC5 : Below w.heap.size w x5 := hC4.trans (hX5.mono hc4)
              have hc5 := hC5.size
              clear hY5 hX5
              go_wp2_with fail
              refine (shiftT 1 _ HI.out.1 (by omega) (by omega)).mono ?_
              rintro e x6 ⟨y6, rfl, hY6, hX6⟩
              have hsy6 : y6.size ≤ 310 := Nat.le_trans (hY6.size (ten_mul (10 ^ 1) 1 HBD.out.1 (Nat.le_refl _)) (by omega)) (by have := HBD.out.2.2.1; omega)
              have HY6 := hideT hY6
              have hC6 : Below w.heap.size w x6 := hC5.trans (hX6.mono hc5)
              have hc6 := hC6.size
              clear hY6 hX6
              go_wp2_with fail
              refine (numT d _ (by omega)).mono ?_
              rintro e x7 ⟨y7, rfl, hY7, hX7⟩
              have hsy7 : y7.size ≤ 1 := hY7.size (by omega) (by omega)
              have HY7 := hideT hY7
              have hC7 : Below w.heap.size w x7 := hC6.trans (hX7.mono hc6)
              have hc7 := hC7.size
              clear hY7 hX7
              go_wp2_with fail
              refine (addT _ HY6.out HY7.out (by omega) (by omega)).mono ?_
              rintro e x8 ⟨y8, rfl, hY8, hX8⟩
              have hC8 : Below w.heap.size w x8 := hC7.trans (hX8.mono hc7)
              have HY8 : Hid (Tx y8 (10 * r + d)) := by rw [Nat.pow_one, Nat.mul_comm r 10] at hY8; exact hY8
              clear hY8 hX8
              go_wp2
              go_roundg (H - (j + 1))
              case measure => omega
              case rel =>
                have hst := root_step (dval (B.data.toList.take (2 * j))) HI.out.2.2.1 HI.out.2.2.2 HBD.out.2.2.2 HLE.out hd9 HD9.out
                have e2 : 2 * (j + 1) = 2 * j + 2 := by omega
                refine ⟨j + 1, 10 * r + d, 100 * t + pv - (20 * r + d) * d, y8, y5, rfl, by omega, rfl, rfl, by have h9 := HI23.out; congr 1; omega, ⟨HY8.out, HY5.out, by rw [e2, HPD.out]; exact hst.1, hst.2⟩, hC8⟩
          · have hd00 : d = 0 := by omega
            have HLE : Hid ((20 * r + d) * d ≤ 100 * t + pv) := by unfold Hid; rw [hd00]; simp
            have BLW := HBI.out
            clear hd00
            go_wp2_with fail
            refine (numT d _ (by omega)).mono ?_
            rintro e x1 ⟨y1, rfl, hY1, hX1⟩
            have hsy1 : y1.size ≤ 1 := hY1.size (by omega) (by omega)
            have HY1 := hideT hY1
            have hC1 : Below w.heap.size w x1 := BLW.trans (hX1.mono BLW.size)
            have hc1 := hC1.size
            clear hY1 hX1
            go_wp2_with fail
            refine (addT _ HT4.out HY1.out (by omega) (by omega)).mono ?_
            rintro e x2 ⟨y2, rfl, hY2, hX2⟩
            have HL5 := hideT (show r * 20 + d < 10 ^ (j + 2 + 1) from ten_add HL4.out (ten_mono (j := 1) (by omega) (by omega)))
            have hsy2 : y2.size ≤ 310 := Nat.le_trans (hY2.size HL5.out (by omega)) (by have := HBD.out.2.2.1; omega)
            have HY2 := hideT hY2
            have hC2 : Below w.heap.size w x2 := hC1.trans (hX2.mono hc1)
            have hc2 := hC2.size
            clear hY2 hX2
            go_wp2_with fail
            refine (numT d _ (by omega)).mono ?_
            rintro e x3 ⟨y3, rfl, hY3, hX3⟩
            have hsy3 : y3.size ≤ 1 := hY3.size (by omega) (by omega)
            have HY3 := hideT hY3
            have hC3 : Below w.heap.size w x3 := hC2.trans (hX3.mono hc2)
            have hc3 := hC3.size
            clear hY3 hX3
            go_wp2_with fail
            refine (mulT _ HY2.out HY3.out (by omega) (by omega)).mono ?_
            rintro e x4 ⟨y4, rfl, hY4, hX4⟩
            have hsy4 : y4.size ≤ 310 := Nat.le_trans (hY4.size (ten_mul d 1 HL5.out (by omega)) (by omega)) (by have := HBD.out.2.2.1; omega)
            have HY4 : Hid (Tx y4 ((20 * r + d) * d)) := by rw [Nat.mul_comm r 20] at hY4; exact hY4
            have hC4 : Below w.heap.size w x4 := hC3.trans (hX4.mono hc3)
            have hc4 := hC4.size
            clear hY4 hX4
            go_wp2_with fail
            refine (subT _ HT3.out HY4.out (by omega) (by omega) HLE.out).mono ?_
            rintro e x5 ⟨y5, rfl, hY5, hX5⟩
            have HY5 := hideT hY5
            have hC5 : Below w.heap.size w x5 := hC4.trans (hX5.mono hc4)
            have hc5 := hC5.size
            clear hY5 hX5
            go_wp2_with fail
            refine (shiftT 1 _ HI.out.1 (by omega) (by omega)).mono ?_
            rintro e x6 ⟨y6, rfl, hY6, hX6⟩
            have hsy6 : y6.size ≤ 310 := Nat.le_trans (hY6.size (ten_mul (10 ^ 1) 1 HBD.out.1 (Nat.le_refl _)) (by omega)) (by have := HBD.out.2.2.1; omega)
            have HY6 := hideT hY6
            have hC6 : Below w.heap.size w x6 := hC5.trans (hX6.mono hc5)
            have hc6 := hC6.size
            clear hY6 hX6
            go_wp2_with fail
            refine (numT d _ (by omega)).mono ?_
            rintro e x7 ⟨y7, rfl, hY7, hX7⟩
            have hsy7 : y7.size ≤ 1 := hY7.size (by omega) (by omega)
            have HY7 := hideT hY7
            have hC7 : Below w.heap.size w x7 := hC6.trans (hX7.mono hc6)
            have hc7 := hC7.size
            clear hY7 hX7
            go_wp2_with fail
            refine (addT _ HY6.out HY7.out (by omega) (by omega)).mono ?_
            rintro e x8 ⟨y8, rfl, hY8, hX8⟩
            have hC8 : Below w.heap.size w x8 := hC7.trans (hX8.mono hc7)
            have HY8 : Hid (Tx y8 (10 * r + d)) := by rw [Nat.pow_one, Nat.mul_comm r 10] at hY8; exact hY8
            clear hY8 hX8
            go_wp2
            go_roundg (H - (j + 1))
            case measure => omega
            case rel =>
              have hst := root_step (dval (B.data.toList.take (2 * j))) HI.out.2.2.1 HI.out.2.2.2 HBD.out.2.2.2 HLE.out hd9 HD9.out
              have e2 : 2 * (j + 1) = 2 * j + 2 := by omega
              refine ⟨j + 1, 10 * r + d, 100 * t + pv - (20 * r + d) * d, y8, y5, rfl, by omega, rfl, rfl, by have h9 := HI23.out; congr 1; omega, ⟨HY8.out, HY5.out, by rw [e2, HPD.out]; exact hst.1, hst.2⟩, hC8⟩
      · have hjH : j = H := by have := HSZ.out; omega
        have HE : Hid (r * r + t = dval a.data.toList) := by
          unfold Hid
          rw [HI.out.2.2.1, ← HV.out, List.take_of_length_le (by rw [show B.data.toList.length = B.size by simp]; have h6 := HSZ.out; omega)]
        clear hjH
        go_wp2
        go_ret2
        exact ⟨⟨sr, st, r, t, rfl, HI.out.1, HI.out.2.1, HE.out, HI.out.2.2.2⟩, HBL.out⟩

/-- What SqrtNat answers. -/
def SqAns (a : ByteArray) (e : Ending) : Prop :=
  (goodB a.data.toList = true ∧ ∃ (s t : ByteArray) (r u : Nat), e = .returned (.tuple #[.string s, .string t, .bool true]) ∧ Tx s r ∧ Tx t u ∧ r * r + u = dval a.data.toList ∧ u ≤ 2 * r) ∨ (goodB a.data.toList = false ∧ e = .returned (.tuple #[.string ⟨#[]⟩, .string ⟨#[]⟩, .bool false]))
theorem SqAns.same {a : ByteArray} {e e' : Ending} (h : SqAns a e) (g : SqAns a e') : ∃ (s t : ByteArray) (o : Bool), e = .returned (.tuple #[.string s, .string t, .bool o]) ∧ e' = .returned (.tuple #[.string s, .string t, .bool o]) := by
  rcases h with ⟨h0, s, t, r, u, rfl, h1, h2, h3, h4⟩ | ⟨h0, rfl⟩
  · rcases g with ⟨g0, s', t', r', u', rfl, g1, g2, g3, g4⟩ | ⟨g0, rfl⟩
    · obtain ⟨e1, e2⟩ := root_two h3 h4 g3 g4
      subst e1 e2
      obtain rfl := h1.inj g1
      obtain rfl := h2.inj g2
      exact ⟨_, _, _, rfl, rfl⟩
    · rw [h0] at g0; cases g0
  · rcases g with ⟨g0, _⟩ | ⟨g0, rfl⟩
    · rw [h0] at g0; cases g0
    · exact ⟨_, _, _, rfl, rfl⟩

set_option maxHeartbeats 1000000 in
theorem specSqrt_any (a : ByteArray) (w : World) (hsa : a.size ≤ maxLen) :
    Calls Tryd.prog 8 #[.string a] w fun e w' => SqAns a e ∧ Below w.heap.size w w' := by
  cases hg : goodB a.data.toList with
  | true =>
    have HG := hideT hg
    have HC := hideT (good_canon hg)
    have hla : a.size ≤ 600 := by have := good_len hg; simpa using this
    clear hg
    go_enter Tryd.func8, Tryd.ntmps8
    go_wp2_with fail
    refine (specGood_any a _ hsa).mono ?_
    rintro e w' ⟨rfl, rfl⟩
    rw [HG.out]
    go_wp2_with fail
    refine (laSqrt_any a _ hla HC.out).mono ?_
    rintro e w1 ⟨⟨s, t, r, u, rfl, h1, h2, h3, h4⟩, hW1⟩
    have HA : Hid (SqAns a (.returned (.tuple #[.string s, .string t, .bool true]))) := .inl ⟨HG.out, s, t, r, u, rfl, h1, h2, h3, h4⟩
    clear h1 h2 h3 h4
    go_wp2
    go_ret3
    exact ⟨HA.out, hW1⟩
  | false =>
    have HG := hideT hg
    have HA : Hid (SqAns a (.returned (.tuple #[.string ⟨#[]⟩, .string ⟨#[]⟩, .bool false]))) := .inr ⟨hg, rfl⟩
    clear hg
    go_enter Tryd.func8, Tryd.ntmps8
    go_wp2_with fail
    refine (specGood_any a _ hsa).mono ?_
    rintro e w' ⟨rfl, rfl⟩
    rw [HG.out]
    go_wp2
    go_ret3
    exact ⟨HA.out, Below.refl _ _⟩
end Go.Proofs.YtmfpnbmfcoahbaaDoor
