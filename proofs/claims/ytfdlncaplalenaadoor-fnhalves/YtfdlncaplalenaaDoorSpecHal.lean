/-
  Multiplying by halves: the plain relation (how many products are made directly), and what spec.laHalves answers.
-/
import Derived.Test.YtfdlncaplalenaaDoorSpecRoot
import Derived.Test.YtfdlncaplalenaaDoorPkSpecNear
import Derived.Deep.CutBlock
import Derived.Deep.DeepCutAuto
namespace Go.Proofs.YtfdlncaplalenaaDoor
open Go.RowKit
set_option linter.unusedVariables false

/-- A number has so many digits. -/
def LenH (n L : Nat) : Prop := 1 ≤ L ∧ n < 10 ^ L ∧ (n ≠ 0 → 10 ^ (L - 1) ≤ n) ∧ (n = 0 → L = 1)
theorem LenH.one {n a b : Nat} (h : LenH n a) (g : LenH n b) : a = b := by
  by_cases h0 : n = 0
  · rw [h.2.2.2 h0, g.2.2.2 h0]
  · have h1 := (Nat.pow_lt_pow_iff_right (by decide : 1 < 10)).1 (Nat.lt_of_le_of_lt (h.2.2.1 h0) g.2.1)
    have h2 := (Nat.pow_lt_pow_iff_right (by decide : 1 < 10)).1 (Nat.lt_of_le_of_lt (g.2.2.1 h0) h.2.1)
    have := h.1
    have := g.1
    omega
theorem Tx.len {s : ByteArray} {n : Nat} (h : Tx s n) : LenH n s.size := by
  have h1 : 1 ≤ s.size := by
    have hc := h.1
    rcases Nat.eq_zero_or_pos s.size with h0 | h0
    · rw [canon_empty s h0] at hc; cases hc
    · exact h0
  refine ⟨h1, h.lt' (Nat.le_refl _), ?_, ?_⟩
  · intro h0
    rcases Nat.lt_or_ge n (10 ^ (s.size - 1)) with g | g
    · exfalso
      by_cases h2 : s.size = 1
      · rw [h2] at g; simp at g; exact h0 g
      · have := h.size g (by omega)
        omega
    · exact g
  · intro h0
    subst h0
    have := h.size (k := 1) (by decide) (by omega)
    omega
/-- Halving: so many products are made directly. -/
inductive Hal (l : Nat) : Nat → Nat → Nat → Prop
  | one {A B a b : Nat} (ha : LenH A a) (hb : LenH B b) (h : a ≤ l ∨ b ≤ l) : Hal l A B 1
  | more {A B a b m c2 c1 c0 : Nat} (ha : LenH A a) (hb : LenH B b) (h : ¬ (a ≤ l ∨ b ≤ l)) (hm : m = (max a b + 1) / 2)
      (h2 : Hal l (A / 10 ^ m) (B / 10 ^ m) c2) (h0 : Hal l (A % 10 ^ m) (B % 10 ^ m) c0) (h1 : Hal l (A / 10 ^ m + A % 10 ^ m) (B / 10 ^ m + B % 10 ^ m) c1) : Hal l A B (c2 + c1 + c0)
theorem Hal.same {l A B c : Nat} (h : Hal l A B c) : ∀ {d : Nat}, Hal l A B d → c = d := by
  induction h with
  | one ha hb h =>
    intro d g
    cases g with
    | one => rfl
    | more ga gb g' hm _ _ _ => exact absurd (by rw [← ha.one ga, ← hb.one gb]; exact h) g'
  | more ha hb h hm _ _ _ i2 i0 i1 =>
    intro d g
    cases g with
    | one ga gb g' => exact absurd (by rw [ha.one ga, hb.one gb]; exact g') h
    | more ga gb g' hm' g2 g0 g1 =>
      rw [ga.one ha, gb.one hb] at hm'
      rw [← hm] at hm'
      subst hm'
      rw [i2 g2, i0 g0, i1 g1]
theorem cut_le (A m : Nat) : A / 10 ^ m + A % 10 ^ m ≤ A := by
  have h := Nat.div_add_mod A (10 ^ m)
  have : A / 10 ^ m ≤ 10 ^ m * (A / 10 ^ m) := Nat.le_mul_of_pos_left _ (Nat.pow_pos (by decide))
  omega
theorem cut_lt {A m : Nat} (h : 10 ^ m ≤ A) (hm : 1 ≤ m) : A / 10 ^ m + A % 10 ^ m < A := by
  have h1 := Nat.div_add_mod A (10 ^ m)
  have h2 : 1 ≤ A / 10 ^ m := Nat.div_pos h (Nat.pow_pos (by decide))
  have h3 : 2 ≤ 10 ^ m := Nat.le_trans (by decide) (Nat.pow_le_pow_right (n := 10) (by decide) hm)
  have h4 : 2 * (A / 10 ^ m) ≤ 10 ^ m * (A / 10 ^ m) := Nat.mul_le_mul_right _ h3
  omega
theorem halves_lt {A B a b m : Nat} (ha : LenH A a) (hb : LenH B b) (h : 2 ≤ a ∧ 2 ≤ b) (hm : m = (max a b + 1) / 2) : (A / 10 ^ m + A % 10 ^ m) + (B / 10 ^ m + B % 10 ^ m) < A + B := by
  have hA := cut_le A m
  have hB := cut_le B m
  have nz : ∀ {n L : Nat}, LenH n L → 2 ≤ L → n ≠ 0 := fun h h2 h0 => by have := h.2.2.2 h0; omega
  by_cases hab : a ≤ b
  · have := cut_lt (A := B) (m := m) (Nat.le_trans (Nat.pow_le_pow_right (by decide) (by omega)) (hb.2.2.1 (nz hb h.2))) (by omega)
    omega
  · have := cut_lt (A := A) (m := m) (Nat.le_trans (Nat.pow_le_pow_right (by decide) (by omega)) (ha.2.2.1 (nz ha h.1))) (by omega)
    omega
theorem kara (a1 a0 b1 b0 : Nat) : (a1 + a0) * (b1 + b0) - a1 * b1 - a0 * b0 = a1 * b0 + a0 * b1 ∧ a1 * b1 ≤ (a1 + a0) * (b1 + b0) ∧ a0 * b0 ≤ (a1 + a0) * (b1 + b0) - a1 * b1 := by
  have : (a1 + a0) * (b1 + b0) = a1 * b1 + a0 * b0 + (a1 * b0 + a0 * b1) := by grind
  omega
theorem kara_all (A B m : Nat) : (A / 10 ^ m) * (B / 10 ^ m) * 10 ^ (2 * m) + ((A / 10 ^ m) * (B % 10 ^ m) + (A % 10 ^ m) * (B / 10 ^ m)) * 10 ^ m + (A % 10 ^ m) * (B % 10 ^ m) = A * B := by
  obtain ⟨t, ht⟩ : ∃ t, 10 ^ m = t := ⟨_, rfl⟩
  have h2 : 10 ^ (2 * m) = t * t := by rw [← ht, ← Nat.pow_add]; congr 1; omega
  rw [h2, ht]
  have hA := Nat.div_add_mod A t
  have hB := Nat.div_add_mod B t
  obtain ⟨a1, h1⟩ : ∃ a1, A / t = a1 := ⟨_, rfl⟩
  obtain ⟨a0, h3⟩ : ∃ a0, A % t = a0 := ⟨_, rfl⟩
  obtain ⟨b1, h4⟩ : ∃ b1, B / t = b1 := ⟨_, rfl⟩
  obtain ⟨b0, h5⟩ : ∃ b0, B % t = b0 := ⟨_, rfl⟩
  rw [h1, h3] at hA
  rw [h4, h5] at hB
  rw [h1, h3, h4, h5, ← hA, ← hB]
  grind

theorem prod_ltH {A B i j k : Nat} (h : A < 10 ^ i) (g : B < 10 ^ j) (hk : i + j ≤ k) : A * B < 10 ^ k := by
  have h1 : A * B < 10 ^ i * 10 ^ j := Nat.mul_lt_mul'' h g
  rw [← Nat.pow_add] at h1
  exact Nat.lt_of_lt_of_le h1 (Nat.pow_le_pow_right (by decide) hk)
theorem wrap3 (a b c : Int) : IntKind.i64.wrap (IntKind.i64.wrap (IntKind.i64.wrap a + IntKind.i64.wrap b) + IntKind.i64.wrap c) = IntKind.i64.wrap (a + b + c) := by
  simp only [IntKind.wrap_i64]
  omega
theorem sum3 {x y z t N M : Nat} (h : (x + y) + (z + t) < N) (hM : N = M) : x + z < M ∧ y + t < M ∧ (x + y) + (z + t) < M := by omega
theorem parts3 {x y z t : Nat} (h : x + y + z = t) : x ≤ t ∧ y ≤ t ∧ x + y ≤ t := by omega

set_option maxHeartbeats 8000000 in
set_option maxRecDepth 100000 in
theorem laHalves_any (l : Nat) (hl : 1 ≤ l) (hl2 : l ≤ 100) : ∀ (N : Nat) (a b : ByteArray) (A B : Nat) (w : World), A + B = N → Tx a A → Tx b B → a.size ≤ 600 → b.size ≤ 600 →
    Calls Tryd.prog 23 #[.string a, .string b, .int .i64 (l : Int)] w fun e w' => (∃ (p : ByteArray) (x : Int) (c : Nat), e = .returned (.tuple #[.string p, .int .i64 x]) ∧ Tx p (A * B) ∧ Hal l A B c ∧ x = IntKind.i64.wrap (c : Int)) ∧ Below w.heap.size w w' := by
  intro N
  induction N using Nat.strongRecOn with
  | _ N ih =>
    intro a b A B w hN ta tb hsa hsb
    have HT := hideT' (And.intro ta (And.intro tb (And.intro ta.len tb.len)))
    have HIH := hideT' ih
    have HN := hideT' hN
    clear ih ta tb hN
    have direct : (a.size ≤ l ∨ b.size ≤ l) → Hid (Hal l A B 1) := fun h => Hal.one HT.out.2.2.1 HT.out.2.2.2 h
    by_cases ha : (a.size : Int) ≤ (l : Int)
    · have HD := hideT' (direct (.inl (by omega))).out
      clear direct
      go_enter Tryd.func23, Tryd.ntmps23
      go_wp2_with fail
      refine (mulT _ HT.out.1 HT.out.2.1 hsa hsb).mono ?_
      rintro e w1 ⟨p, rfl, tp, hW⟩
      have HP := hideT' tp
      clear tp
      go_wp2
      refine bodyPost_ret (results_tmp2 rfl _ _ _) rfl ?_
      exact ⟨⟨p, 1, 1, rfl, HP.out, HD.out, by decide⟩, hW⟩
    · by_cases hb : (b.size : Int) ≤ (l : Int)
      · have HD := hideT' (direct (.inr (by omega))).out
        clear direct
        go_enter Tryd.func23, Tryd.ntmps23
        go_wp2_with fail
        refine (mulT _ HT.out.1 HT.out.2.1 hsa hsb).mono ?_
        rintro e w1 ⟨p, rfl, tp, hW⟩
        have HP := hideT' tp
        clear tp
        go_wp2
        refine bodyPost_ret (results_tmp2 rfl _ _ _) rfl ?_
        exact ⟨⟨p, 1, 1, rfl, HP.out, HD.out, by decide⟩, hW⟩
      · clear direct
        go_enter Tryd.func23, Tryd.ntmps23
        have hbig : ¬ (a.size ≤ l ∨ b.size ≤ l) := by omega
        obtain ⟨m, hm⟩ : ∃ m, m = (max a.size b.size + 1) / 2 := ⟨_, rfl⟩
        have hm0 : 0 < m := by omega
        have hm6 : m ≤ 600 := by omega
        have hdec := halves_lt HT.out.2.2.1 HT.out.2.2.2 (by omega) hm
        have HBIG := hideT' (And.intro hbig (And.intro hm hdec))
        obtain ⟨M, hM⟩ : ∃ M, M = max a.size b.size := ⟨_, rfl⟩
        have hq : ((M : Int) + 1).tdiv 2 = (m : Int) := by rw [Int.tdiv_eq_ediv_of_nonneg (by omega)]; omega
        have hwM : IntKind.i64.wrap ((M : Int) + 1) = (M : Int) + 1 := by rw [IntKind.wrap_i64]; omega
        have hwm : IntKind.i64.wrap (m : Int) = (m : Int) := by rw [IntKind.wrap_i64]; omega
        have HMX := hideT' hM
        clear hbig hm hdec hM
        go_upto_if 38 with fail
        go_cut [8] (fun x wx => x = .int .i64 (M : Int) ∧ wx = w)
        case first =>
          by_cases hab : (a.size : Int) < (b.size : Int)
          · have HE : Hid (b.size = M) := by unfold Hid; have := HMX.out; omega
            go_wp2
            go_meet
            case rel => exact ⟨by rw [HE.out], rfl⟩
          · have HE : Hid (a.size = M) := by unfold Hid; have := HMX.out; omega
            go_wp2
            go_meet
            case rel => exact ⟨by rw [HE.out], rfl⟩
        case rest =>
          obtain ⟨rfl, hwc⟩ := hcut
          subst hwc
          have h2m : IntKind.i64.wrap (2 * (m : Int)) = ((2 * m : Nat) : Int) := by rw [IntKind.wrap_i64]; omega
          go_wp2_with fail
          refine (cutT m _ HT.out.1 (by omega) hm0 (by omega)).mono ?_
          rintro e w1 ⟨a1, a0, rfl, ta1, ta0, hW1⟩
          go_wp2_with fail
          refine (cutT m _ HT.out.2.1 (by omega) hm0 (by omega)).mono ?_
          rintro e w2 ⟨b1, b0, rfl, tb1, tb0, hW2⟩
          have hB2 : Below wc.heap.size wc w2 := hW1.trans (hW2.mono hW1.size)
          have hA := cut_le A m
          have hB := cut_le B m
          have hAl : A < 10 ^ a.size := HT.out.2.2.1.2.1
          have hBl : B < 10 ^ b.size := HT.out.2.2.2.2.1
          have hs1 : 1 ≤ a.size := by omega
          have hs2 : 1 ≤ b.size := by omega
          have za1 := ta1.size (k := a.size) (Nat.lt_of_le_of_lt (Nat.div_le_self _ _) hAl) hs1
          have za0 := ta0.size (k := a.size) (Nat.lt_of_le_of_lt (Nat.mod_le _ _) hAl) hs1
          have zb1 := tb1.size (k := b.size) (Nat.lt_of_le_of_lt (Nat.div_le_self _ _) hBl) hs2
          have zb0 := tb0.size (k := b.size) (Nat.lt_of_le_of_lt (Nat.mod_le _ _) hBl) hs2
          have HC := hideT' (And.intro ta1 (And.intro ta0 (And.intro tb1 (And.intro tb0 (And.intro hA (And.intro hB (And.intro hAl hBl)))))))
          clear ta1 ta0 tb1 tb0 hA hB hAl hBl hW1 hW2
          go_wp2_with fail
          refine (HIH.out _ (sum3 HBIG.out.2.2 HN.out).1 a1 b1 _ _ _ rfl HC.out.1 HC.out.2.2.1 (by omega) (by omega)).mono ?_
          rintro e w3 ⟨⟨p2, x2, c2, rfl, tp2, k2, hx2⟩, hW3⟩
          have hB3 : Below wc.heap.size wc w3 := hB2.trans (hW3.mono hB2.size)
          clear hB2 hW3
          go_wp2_with fail
          refine (HIH.out _ (sum3 HBIG.out.2.2 HN.out).2.1 a0 b0 _ _ _ rfl HC.out.2.1 HC.out.2.2.2.1 (by omega) (by omega)).mono ?_
          rintro e w4 ⟨⟨p0, x0, c0, rfl, tp0, k0, hx0⟩, hW4⟩
          have hB4 : Below wc.heap.size wc w4 := hB3.trans (hW4.mono hB3.size)
          have HX := hideT' (And.intro hx2 (And.intro hx0 (And.intro tp2 (And.intro k2 (And.intro tp0 k0)))))
          clear hB3 hW4 hx2 hx0 tp2 k2 tp0 k0
          go_wp2_with fail
          refine (addT _ HC.out.1 HC.out.2.1 (by omega) (by omega)).mono ?_
          rintro e w5 ⟨sa, rfl, tsa, hW5⟩
          have hB5 : Below wc.heap.size wc w5 := hB4.trans (hW5.mono hB4.size)
          clear hB4 hW5
          go_wp2_with fail
          refine (addT _ HC.out.2.2.1 HC.out.2.2.2.1 (by omega) (by omega)).mono ?_
          rintro e w6 ⟨sb, rfl, tsb, hW6⟩
          have hB6 : Below wc.heap.size wc w6 := hB5.trans (hW6.mono hB5.size)
          have zsa := tsa.size (k := a.size) (Nat.lt_of_le_of_lt HC.out.2.2.2.2.1 HC.out.2.2.2.2.2.2.1) hs1
          have zsb := tsb.size (k := b.size) (Nat.lt_of_le_of_lt HC.out.2.2.2.2.2.1 HC.out.2.2.2.2.2.2.2) hs2
          have HS := hideT' (And.intro tsa tsb)
          clear hB5 hW6 tsa tsb
          go_wp2_with fail
          refine (HIH.out _ (sum3 HBIG.out.2.2 HN.out).2.2 sa sb _ _ _ rfl HS.out.1 HS.out.2 (by omega) (by omega)).mono ?_
          rintro e w7 ⟨⟨p1, x1, c1, rfl, tp1, k1, hx1⟩, hW7⟩
          have hB7 : Below wc.heap.size wc w7 := hB6.trans (hW7.mono hB6.size)
          have HY := hideT' (And.intro hx1 (And.intro tp1 k1))
          clear hB6 hW7 hx1 tp1 k1
          have HK := hideT' (kara (A / 10 ^ m) (A % 10 ^ m) (B / 10 ^ m) (B % 10 ^ m))
          have hall := kara_all A B m
          have hle : ∀ x y : Nat, x ≤ A → y ≤ B → x * y ≤ A * B := fun x y h1 h2 => Nat.mul_le_mul h1 h2
          have HF : Hid (∀ {s : ByteArray} {n : Nat}, Tx s n → n ≤ A * B → s.size ≤ 1200) := fun h h2 => Nat.le_trans (h.size (k := a.size + b.size) (Nat.lt_of_le_of_lt h2 (prod_ltH HC.out.2.2.2.2.2.2.1 HC.out.2.2.2.2.2.2.2 (Nat.le_refl _))) (by omega)) (by omega)
          have HALL := hideT' (And.intro hall hle)
          clear hall hle
          have z2 := HF.out HX.out.2.2.1 (HALL.out.2 _ _ (Nat.div_le_self _ _) (Nat.div_le_self _ _))
          have z0 := HF.out HX.out.2.2.2.2.1 (HALL.out.2 _ _ (Nat.mod_le _ _) (Nat.mod_le _ _))
          have z1 := HF.out HY.out.2.1 (HALL.out.2 _ _ HC.out.2.2.2.2.1 HC.out.2.2.2.2.2.1)
          go_wp2_with fail
          refine (subT _ HY.out.2.1 HX.out.2.2.1 (by omega) (by omega) HK.out.2.1).mono ?_
          rintro e w8 ⟨u, rfl, tu, hW8⟩
          have hB8 : Below wc.heap.size wc w8 := hB7.trans (hW8.mono hB7.size)
          have HU := hideT' tu
          have zu := HF.out tu (Nat.le_trans (Nat.sub_le _ _) (HALL.out.2 _ _ HC.out.2.2.2.2.1 HC.out.2.2.2.2.2.1))
          clear hB7 hW8 tu
          go_wp2_with fail
          refine (subT _ HU.out HX.out.2.2.2.2.1 (by omega) (by omega) HK.out.2.2).mono ?_
          rintro e w9 ⟨mid, rfl, tmid, hW9⟩
          have hB9 : Below wc.heap.size wc w9 := hB8.trans (hW9.mono hB8.size)
          rw [HK.out.1] at tmid
          have zmid := HF.out tmid (Nat.le_trans (Nat.le_mul_of_pos_right _ (Nat.pow_pos (by decide))) (parts3 HALL.out.1).2.1)
          have HMID := hideT' tmid
          clear hB8 hW9 tmid
          go_wp2_with fail
          refine (shiftT (2 * m) _ HX.out.2.2.1 (by omega) (by omega)).mono ?_
          rintro e w10 ⟨v2, rfl, tv2, hW10⟩
          have hB10 : Below wc.heap.size wc w10 := hB9.trans (hW10.mono hB9.size)
          have zv2 := HF.out tv2 (parts3 HALL.out.1).1
          have HV2 := hideT' tv2
          clear hB9 hW10 tv2
          go_wp2_with fail
          refine (shiftT m _ HMID.out (by omega) (by omega)).mono ?_
          rintro e w11 ⟨v1, rfl, tv1, hW11⟩
          have hB11 : Below wc.heap.size wc w11 := hB10.trans (hW11.mono hB10.size)
          have zv1 := HF.out tv1 (parts3 HALL.out.1).2.1
          have HV1 := hideT' tv1
          clear hB10 hW11 tv1
          go_wp2_with fail
          refine (addT _ HV2.out HV1.out (by omega) (by omega)).mono ?_
          rintro e w12 ⟨y, rfl, ty, hW12⟩
          have hB12 : Below wc.heap.size wc w12 := hB11.trans (hW12.mono hB11.size)
          have zy := HF.out ty (parts3 HALL.out.1).2.2
          have HYY := hideT' ty
          clear hB11 hW12 ty
          go_wp2_with fail
          refine (addT _ HYY.out HX.out.2.2.2.2.1 (by omega) (by omega)).mono ?_
          rintro e w13 ⟨z, rfl, tz, hW13⟩
          have hB13 : Below wc.heap.size wc w13 := hB12.trans (hW13.mono hB12.size)
          rw [HALL.out.1] at tz
          have HZ := hideT' tz
          clear hB12 hW13 tz
          go_wp2
          refine bodyPost_ret (results_tmp2 rfl _ _ _) rfl ?_
          exact ⟨⟨z, _, c2 + c1 + c0, rfl, HZ.out, Hal.more HT.out.2.2.1 HT.out.2.2.2 HBIG.out.1 HBIG.out.2.1 HX.out.2.2.2.1 HX.out.2.2.2.2.2 HY.out.2.2, by rw [HX.out.2.1, HY.out.1, Int.natCast_add, Int.natCast_add, ← wrap3]; simp only [IntWalk.i64_left]⟩, hB13⟩
end Go.Proofs.YtfdlncaplalenaaDoor
