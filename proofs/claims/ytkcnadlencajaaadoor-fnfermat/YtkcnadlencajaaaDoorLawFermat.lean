/-
  The law FnFermat: its walk.
-/
import Derived.Test.YtkcnadlencajaaaDoorLaid
import Derived.Test.YtkcnadlencajaaaDoorFermatMath
import Derived.Test.YtkcnadlencajaaaDoorNumeral
import Derived.Test.YtkcnadlencajaaaDoorDrawPow
import Derived.Test.YtkcnadlencajaaaDoorImplPow
import Derived.Test.YtkcnadlencajaaaDoorPkImplMake
namespace Go.Proofs.YtkcnadlencajaaaDoor
open Go.RowKit
set_option linter.unusedVariables false

theorem pm_small {s : ByteArray} (h : s.size ≤ 1000) : s.size ≤ maxLen := by unfold maxLen; omega
/-- What FnFermat's two calls tell is the same. -/
theorem fermat_same {a q t r : ByteArray} {p : Nat} (hp : NoDiv p) (hq : Tx q p) (hg : goodB a.data.toList = true) (hs : q.size ≤ 60) {o : Bool} (h1 : PmAns a q q (.returned (.tuple #[.string t, .bool o]))) {u : ByteArray} {o2 : Bool} (h2 : Ans2 (divOk a q) (dval a.data.toList / dval q.data.toList) (dval a.data.toList % dval q.data.toList) (.returned (.tuple #[.string u, .string r, .bool o2]))) : o = true ∧ o2 = true ∧ t = r := by
  have hp2 := hp.1
  have hgq : goodB q.data.toList = true := by unfold goodB; rw [hq.1, decide_eq_true (by simpa using Nat.le_trans hs (by decide))]; rfl
  have hq0 : dval q.data.toList ≠ 0 := by rw [hq.2]; omega
  have hok : pmOk a q q = true := by
    unfold pmOk
    rw [hg, hgq, decide_eq_false hq0, decide_eq_true hs, decide_eq_true (Nat.le_trans hs (by decide))]; rfl
  have hdk : divOk a q = true := by unfold divOk; rw [hg, hgq, decide_eq_true hq0]; rfl
  rcases h1 with ⟨_, s, he, hs1⟩ | ⟨h, _⟩
  · rcases h2 with ⟨_, s2, t2, he2, _, _, c2, v2⟩ | ⟨h, _⟩
    · simp only [Ending.returned.injEq, Value.tuple.injEq, Array.mk.injEq, List.cons.injEq, Value.string.injEq, Value.bool.injEq, and_true] at he he2
      obtain ⟨rfl, rfl⟩ : t = s ∧ o = true := by simpa using he
      obtain ⟨_, rfl, rfl⟩ : u = s2 ∧ r = t2 ∧ o2 = true := by simpa using he2
      refine ⟨rfl, rfl, hs1.inj ⟨c2, ?_⟩⟩
      rw [v2, hq.2, fermat hp]
    · rw [hdk] at h; cases h
  · rw [hok] at h; cases h
/-- No number up to 31 divides 1009. -/
theorem last_prime : ∀ k, k < 32 → 2 ≤ k → 1009 % k ≠ 0 := by decide
theorem below_32 {k p : Nat} (h : k * k ≤ p) (hp : p ≤ 1009) : k < 32 := by
  rcases Nat.lt_or_ge k 32 with h1 | h1
  · exact h1
  · have := Nat.mul_le_mul h1 h1; omega

set_option maxHeartbeats 8000000 in
set_option maxRecDepth 100000 in
theorem fermat_walk (l0 l1 : List Int) (v0 v1 : Value) (w : World) (h0 : Code w v0 l0) (h1 : Code w v1 l1) (hT : Tab w.heap.size w) :
    Calls Tryd.prog 11 #[v0, v1] w fun e w' => e = .returned (.bool true) ∧ Below w.heap.size w w' := by
  have HC := hideT' (And.intro h0 h1)
  obtain ⟨o0, c0, rfl⟩ := h0.1.len
  obtain ⟨o1, c1, rfl⟩ := h1.1.len
  have HT := hideT' hT
  clear h0 h1 hT
  go_enter Tryd.func11, Tryd.ntmps11
  by_cases hlong : (1048576 : Int) < wrap64 ((l0.length : Int) + (l1.length : Int))
  · go_wp2
    go_ret
    exact ⟨rfl, Below.refl _ _⟩
  go_wp2_with fail
  refine (drawPowMod_any _ l0 w HC.out.1).mono ?_
  rintro e w1 ⟨⟨a, n, m, rfl, ha, hn, hm⟩, hB1⟩
  have HA := hideT' (And.intro (pm_small ha) (And.intro (pm_small hn) (pm_small hm)))
  clear ha hn hm
  go_wp2_with fail
  refine (implPowMod_any a n m w1 HA.out.1 HA.out.2.1 HA.out.2.2 ((HT.out.on hB1).up hB1.size)).mono ?_
  rintro e w2 ⟨hA2, hB2⟩
  have hA2' := hA2
  have HP := hideT' hA2
  obtain ⟨s, o, he, _⟩ := hA2.same hA2'
  subst he
  have hV2 := hB1.trans (hB2.mono hB1.size)
  clear hA2 hA2' hB1 hB2
  go_wp2_with fail
  refine (specPowMod_any a n m w2 HA.out.1 HA.out.2.1 HA.out.2.2).mono ?_
  rintro e w3 ⟨hA3, hB3⟩
  obtain ⟨s2, o2, he1, he2⟩ := HP.out.same hA3
  obtain ⟨rfl, rfl⟩ : s = s2 ∧ o = o2 := by
    simp only [Ending.returned.injEq, Value.tuple.injEq, Array.mk.injEq, List.cons.injEq, Value.string.injEq, Value.bool.injEq, and_true] at he1
    simpa using he1
  subst he2
  have hV3 := hV2.trans (hB3.mono hV2.size)
  clear he1 hA3 hV2 hB3
  go_wp2_with fail
  refine (specGood_any a w3 HA.out.1).mono ?_
  rintro e w' ⟨rfl, rfl⟩
  cases hg : goodB a.data.toList with
  | false =>
    have hs : s = ⟨#[]⟩ := by
      rcases HP.out with ⟨h, _⟩ | ⟨_, h⟩
      · unfold pmOk at h; rw [hg] at h; simp at h
      · simp only [Ending.returned.injEq, Value.tuple.injEq, Array.mk.injEq, List.cons.injEq, Value.string.injEq, Value.bool.injEq, and_true] at h
        exact h.1
    subst hs
    clear hg HP
    go_wp2
    go_ret
    exact ⟨rfl, hV3⟩
  | true =>
    have HG := hideT' hg
    have HC3 : Hid (Code w' (.slice o1 l1.length c1) l1) := ⟨HC.out.2.1.below hV3, HC.out.2.2.1, HC.out.2.2.2⟩
    clear hg HP
    go_wp2_with fail
    refine (numberOf_any _ l1 w' HC3.out).mono ?_
    rintro e w' ⟨⟨x, rfl, hx0, hx1⟩, rfl⟩
    obtain ⟨y, hy⟩ : ∃ y : Nat, x.tmod 998 = (y : Int) := ⟨(x.tmod 998).toNat, by rw [Int.tmod_eq_emod_of_nonneg hx0]; omega⟩
    have hy2 : y < 998 := by rw [Int.tmod_eq_emod_of_nonneg hx0] at hy; omega
    have hwy : IntKind.i64.wrap (y : Int) = (y : Int) := by rw [IntKind.wrap_i64]; omega
    obtain ⟨p0, hp0⟩ : ∃ p0 : Nat, (2 : Int) + (y : Int) = (p0 : Int) := ⟨2 + y, by omega⟩
    have hwp : IntKind.i64.wrap ((2 : Int) + (y : Int)) = (p0 : Int) := by rw [IntKind.wrap_i64]; omega
    have hp02 : 2 ≤ p0 ∧ p0 ≤ 1009 := by omega
    obtain ⟨hp02, hp09⟩ := hp02
    clear hp0
    go_wp2_with fail
    go_loopg [12, 13] ((1010 - p0) * 40 + 38) (fun g vp vk wr => ∃ p k : Nat, g = (1010 - p) * 40 + (40 - k) ∧ vp = .int .i64 (p : Int) ∧ vk = .int .i64 (k : Int) ∧ 2 ≤ p ∧ p ≤ 1009 ∧ 2 ≤ k ∧ k ≤ 33 ∧ Hid (∀ d, 2 ≤ d → d < k → p % d ≠ 0) ∧ wr = w')
    case atStart => exact ⟨p0, 2, rfl, rfl, rfl, hp02, hp09, by omega, by omega, fun d h1 h2 => by omega, rfl⟩
    case round =>
      obtain ⟨p, k, hgk, rfl, rfl, hp2, hp9, hk2, hk3, HD, rfl⟩ := hrel
      clear hp02 hp09 hwp hwy hy2 hy hx0 hx1
      obtain ⟨z, hz⟩ : ∃ z : Int, (k : Int) * (k : Int) = z := ⟨_, rfl⟩
      have hzn : z = ((k * k : Nat) : Int) := by rw [← hz]; simp
      have hkk : k * k ≤ 33 * 33 := Nat.mul_le_mul hk3 hk3
      have hz0 : 0 ≤ z ∧ z ≤ 1089 := by omega
      obtain ⟨hz0, hz1⟩ := hz0
      have hwz : IntKind.i64.wrap z = z := by rw [IntKind.wrap_i64]; omega
      have HZ := hideT' hzn
      clear hzn hkk
      by_cases hle : z ≤ (p : Int)
      · have hk32 : k < 32 := below_32 (p := p) (by have := HZ.out; omega) hp9
        have hk0 : (k : Int) ≠ 0 := by omega
        have hk0' : ((k : Int) == 0) = false := by simp; omega
        by_cases hd : p % k = 0
        · have htm : (p : Int).tmod (k : Int) = 0 := by rw [Int.tmod_eq_emod_of_nonneg (by omega)]; omega
          have hp8 : p ≤ 1008 := by
            rcases Nat.lt_or_ge p 1009 with h | h
            · omega
            · exact absurd (show 1009 % k = 0 by rw [← show p = 1009 by omega]; exact hd) (last_prime k hk32 hk2)
          clear hd
          go_wp2
          go_roundg ((1010 - (p + 1)) * 40 + (40 - 2))
          case measure => omega
          case rel => exact ⟨p + 1, 2, rfl, by go_num, rfl, by omega, by omega, by omega, by omega, fun d h1 h2 => by omega, rfl⟩
        · obtain ⟨r, hr⟩ : ∃ r, (p : Int).tmod (k : Int) = r := ⟨_, rfl⟩
          have hrn : r ≠ 0 := by
            rw [← hr, Int.tmod_eq_emod_of_nonneg (by omega)]
            intro h; apply hd; exact_mod_cast h
          have hrb : (r == 0) = false := by simpa using hrn
          have hrw : IntKind.i64.wrap r = r := by
            have h1 : 0 ≤ r ∧ r < k := by rw [← hr, Int.tmod_eq_emod_of_nonneg (by omega)]; exact ⟨Int.emod_nonneg _ hk0, Int.emod_lt_of_pos _ (by omega)⟩
            rw [IntKind.wrap_i64]; omega
          have HD2 : Hid (∀ d, 2 ≤ d → d < k + 1 → p % d ≠ 0) := fun d h1 h2 => by
            by_cases e : d = k
            · rw [e]; exact hd
            · exact HD.out d h1 (by omega)
          clear hd
          go_wp2
          go_roundg ((1010 - p) * 40 + (40 - (k + 1)))
          case measure => omega
          case rel => exact ⟨p, k + 1, rfl, rfl, by go_num, hp2, hp9, by omega, by omega, HD2, rfl⟩
      · have HND : Hid (NoDiv p) := noDiv_of hp2 (by have := HZ.out; omega) HD.out
        go_wp2_with fail
        refine (numeral_any p (by omega) wr).mono ?_
        rintro e w4 ⟨q, rfl, hq1, hq2, hB4⟩
        have HQ : Hid (Tx q p) := ⟨hq1, hq2⟩
        have hsq := num_size hq1 hq2 (by omega)
        have hV4 := hV3.trans (hB4.mono hV3.size)
        clear hq1 hq2 hB4
        go_wp2_with fail
        refine (numeral_any p (by omega) w4).mono ?_
        rintro e w5 ⟨q2, rfl, hq1, hq2, hB5⟩
        obtain rfl : q2 = q := Tx.inj ⟨hq1, hq2⟩ HQ.out
        have hV5 := hV4.trans (hB5.mono hV4.size)
        clear hq1 hq2 hB5 hV4
        go_wp2_with fail
        refine (implPowMod_any a q2 q2 w5 HA.out.1 (by unfold maxLen; omega) (by unfold maxLen; omega) ((HT.out.on hV5).up hV5.size)).mono ?_
        rintro e w6 ⟨hA6, hB6⟩
        have hA6' := hA6
        obtain ⟨t, o6, he, _⟩ := hA6.same hA6'
        subst he
        have H6 := hideT' hA6
        have hV6 := hV5.trans (hB6.mono hV5.size)
        clear hA6 hA6' hV5 hB6
        go_wp2_with fail
        refine (numeral_any p (by omega) w6).mono ?_
        rintro e w7 ⟨q3, rfl, hq1, hq2, hB7⟩
        obtain rfl : q3 = q2 := Tx.inj ⟨hq1, hq2⟩ HQ.out
        have hV7 := hV6.trans (hB7.mono hV6.size)
        clear hq1 hq2 hB7 hV6
        go_wp2_with fail
        refine (implDiv_any a q3 w7 HA.out.1 (by unfold maxLen; omega) ((HT.out.on hV7).up hV7.size)).mono ?_
        rintro e w8 ⟨hA8, hB8⟩
        have hA8' := hA8
        obtain ⟨u, r, o8, he, _⟩ := hA8.same hA8'
        subst he
        obtain ⟨rfl, rfl, rfl⟩ := fermat_same HND.out HQ.out HG.out (by omega) H6.out hA8
        have hV8 := hV7.trans (hB8.mono hV7.size)
        clear hA8 hA8' hV7 hB8 H6
        go_wp2
        go_ret
        exact ⟨rfl, hV8⟩
end Go.Proofs.YtkcnadlencajaaaDoor
