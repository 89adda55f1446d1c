/-
  The law FnRoot: its walk.
-/
import Derived.Test.YtmfpnbmfcoahbaaDoorLaid
import Derived.Test.YtmfpnbmfcoahbaaDoorDrawRoot
import Derived.Test.YtmfpnbmfcoahbaaDoorImplRoot
import Derived.Test.YtmfpnbmfcoahbaaDoorImplAdd
import Derived.Test.YtmfpnbmfcoahbaaDoorPkImplMul
import Derived.Test.YtmfpnbmfcoahbaaDoorPkHeld
namespace Go.Proofs.YtmfpnbmfcoahbaaDoor
open Go.RowKit
set_option linter.unusedVariables false

/-- What is told of a number that has a text. -/
theorem ans_told {g : Bool} {n : Nat} {e : Ending} (h : Ans g n e) (hg : g = true) (hn : n < 10 ^ 600) : ∃ s : ByteArray, e = .returned (.tuple #[.string s, .bool true]) ∧ Tx s n := by
  rcases h with ⟨_, s, he, h1, _⟩ | ⟨h, _⟩
  · exact ⟨s, by rw [he, decide_eq_true hn], h1 hn⟩
  · rw [hg] at h; cases h
theorem tx_good {s : ByteArray} {n : Nat} (h : Tx s n) (hn : n < 10 ^ 600) : goodB s.data.toList = true := by
  have h2 := h.size (k := 600) hn (by decide)
  unfold goodB
  exact Bool.and_eq_true_iff.2 ⟨decide_eq_true (by rw [Array.length_toList]; exact h2), h.1⟩
theorem good_txRK {a : ByteArray} {k : Nat} (h : decide (a.data.toList.length ≤ k) && canonB a.data.toList) : Tx a (dval a.data.toList) ∧ dval a.data.toList < 10 ^ k := by
  have h1 := Bool.and_eq_true_iff.1 h
  have h2 := of_decide_eq_true h1.1
  refine ⟨⟨h1.2, rfl⟩, ?_⟩
  have h3 : 1 ≤ a.data.toList.length := by
    rcases Nat.eq_zero_or_pos a.data.toList.length with h0 | h0
    · have e : a.data.toList = [] := List.length_eq_zero_iff.1 h0
      have hc := h1.2
      rw [e] at hc; cases hc
    · exact h0
  exact (canon_len_le h1.2 k (by omega)).1 h2
theorem good_txR {a : ByteArray} (h : goodB a.data.toList = true) : Tx a (dval a.data.toList) ∧ dval a.data.toList < 10 ^ 600 := good_txRK (k := 600) h
theorem ten6 {n k : Nat} (h : n ≤ 2) (hk : 1 ≤ k) : n < 10 ^ k := Nat.lt_of_le_of_lt h (Nat.lt_of_lt_of_le (show 2 < 10 ^ 1 by decide) (Nat.pow_le_pow_right (by decide) hk))
theorem root_small {r u A M : Nat} (hA : A < M) (h2 : 2 < M) (h1 : r * r + u = A) : r < M ∧ r * r < M ∧ r + r < M ∧ u < M := by
  have hrr : r ≤ 1 ∨ r + r ≤ r * r := by
    rcases Nat.lt_or_ge r 2 with h | h
    · exact .inl (by omega)
    · exact .inr (by have := Nat.mul_le_mul_right r h; omega)
  have h3 : r ≤ r * r := Nat.le_mul_self r
  refine ⟨by omega, by omega, ?_, by omega⟩
  rcases hrr with h | h <;> omega

set_option maxHeartbeats 8000000 in
set_option maxRecDepth 100000 in
theorem root_walk (l0 : List Int) (v0 : Value) (w : World) (h0 : Code w v0 l0) (hT : Tab w.heap.size w) :
    Calls Tryd.prog 3 #[v0] w fun e w' => e = .returned (.bool true) ∧ Below w.heap.size w w' := by
  have HC := hideT' h0
  obtain ⟨o0, c0, rfl⟩ := h0.1.len
  have HT := hideT' hT
  clear h0 hT
  go_enter Tryd.func3, Tryd.ntmps3
  by_cases hlong : (1048576 : Int) < (l0.length : Int)
  · go_wp2
    go_ret
    exact ⟨rfl, Below.refl _ _⟩
  go_wp2_with fail
  refine (drawSqrt_any _ l0 w HC.out).mono ?_
  rintro e w1 ⟨⟨a, rfl, ha⟩, hB1⟩
  have HA := hideT' (rt_small ha)
  clear ha
  go_wp2_with fail
  refine (implSqrt_any a w1 HA.out ((HT.out.on hB1).up hB1.size)).mono ?_
  rintro e w2 ⟨hA2, hB2⟩
  have hA2' := hA2
  have HP := hideT' hA2
  obtain ⟨s, t, o, he, _⟩ := hA2.same hA2'
  subst he
  have hV2 := hB1.trans (hB2.mono hB1.size)
  clear hA2 hA2' hB1 hB2
  go_wp2_with fail
  refine (specSqrt_any a w2 HA.out).mono ?_
  rintro e w3 ⟨hA3, hB3⟩
  obtain ⟨s2, t2, o2, he1, he2⟩ := HP.out.same hA3
  obtain ⟨rfl, rfl, rfl⟩ : s = s2 ∧ t = t2 ∧ o = o2 := by
    simp only [Ending.returned.injEq, Value.tuple.injEq, Array.mk.injEq, List.cons.injEq, Value.string.injEq, Value.bool.injEq, and_true] at he1
    simpa using he1
  subst he2
  have hV3 := hV2.trans (hB3.mono hV2.size)
  clear he1 hA3 hV2 hB3
  cases o with
  | false =>
    have hs : s = ⟨#[]⟩ := by
      rcases HP.out with ⟨_, s', t', r', u', h, _⟩ | ⟨_, h⟩
      · simp at h
      · simp only [Ending.returned.injEq, Value.tuple.injEq, Array.mk.injEq, List.cons.injEq, Value.string.injEq, and_true] at h
        exact h.1
    subst hs
    clear HP
    go_wp2
    go_ret
    exact ⟨rfl, hV3⟩
  | true =>
    obtain ⟨r, u, HF⟩ : ∃ r u : Nat, Hid (goodB a.data.toList = true ∧ Tx s r ∧ Tx t u ∧ r * r + u = dval a.data.toList ∧ u ≤ 2 * r) := by
      rcases HP.out with ⟨hg, s', t', r, u, h, h1, h2, h3, h4⟩ | ⟨_, h⟩
      · simp only [Ending.returned.injEq, Value.tuple.injEq, Array.mk.injEq, List.cons.injEq, Value.string.injEq, and_true] at h
        obtain ⟨rfl, rfl⟩ := h
        exact ⟨r, u, hg, h1, h2, h3, h4⟩
      · simp at h
    obtain ⟨ta, la⟩ := good_txR HF.out.1
    have hsm := root_small la (ten6 (k := 600) (Nat.le_refl 2) (by decide)) HF.out.2.2.2.1
    have HS := hideT' (And.intro ta (And.intro la hsm))
    have gs := tx_good HF.out.2.1 HS.out.2.2.1
    have gt := tx_good HF.out.2.2.1 HS.out.2.2.2.2.2
    have HG := hideT' (And.intro gs gt)
    have hss := HF.out.2.1.size (k := 600) HS.out.2.2.1 (by decide)
    have hst := HF.out.2.2.1.size (k := 600) HS.out.2.2.2.2.2 (by decide)
    have HM : Hid (∀ {x : ByteArray}, x.size ≤ 600 → x.size ≤ maxLen) := fun h => by unfold maxLen; omega
    clear ta la hsm gs gt HP
    go_wp2_with fail
    refine (implMul_any s s w3 (HM.out hss) (HM.out hss) ((HT.out.on hV3).up hV3.size)).mono ?_
    rintro e w4 ⟨hA4, hB4⟩
    obtain ⟨p, rfl, tp⟩ := ans_told hA4 (by rw [HG.out.1]; rfl) (by rw [HF.out.2.1.2]; exact HS.out.2.2.2.1)
    rw [HF.out.2.1.2] at tp
    have hsp := tp.size (k := 600) HS.out.2.2.2.1 (by decide)
    have HP4 := hideT' tp
    have hV4 := hV3.trans (hB4.mono hV3.size)
    clear hA4 tp hV3 hB4
    go_wp2_with fail
    refine (implAdd_any p t w4 (HM.out hsp) (HM.out hst) ((HT.out.on hV4).up hV4.size)).mono ?_
    rintro e w5 ⟨hA5, hB5⟩
    obtain ⟨s5, rfl, t5⟩ := ans_told (g := goodB p.data.toList && goodB t.data.toList) (n := dval p.data.toList + dval t.data.toList) hA5 (by rw [tx_good HP4.out HS.out.2.2.2.1, HG.out.2]; rfl) (by rw [HP4.out.2, HF.out.2.2.1.2, HF.out.2.2.2.1]; exact HS.out.2.1)
    rw [HP4.out.2, HF.out.2.2.1.2, HF.out.2.2.2.1] at t5
    obtain rfl := t5.inj HS.out.1
    have hV5 := hV4.trans (hB5.mono hV4.size)
    clear hA5 t5 hV4 hB5
    go_wp2_with fail
    refine (implAdd_any s s w5 (HM.out hss) (HM.out hss) ((HT.out.on hV5).up hV5.size)).mono ?_
    rintro e w6 ⟨hA6, hB6⟩
    obtain ⟨d, rfl, td⟩ := ans_told (g := goodB s.data.toList && goodB s.data.toList) (n := dval s.data.toList + dval s.data.toList) hA6 (by rw [HG.out.1]; rfl) (by rw [HF.out.2.1.2]; exact HS.out.2.2.2.2.1)
    rw [HF.out.2.1.2] at td
    have hsd := td.size (k := 600) HS.out.2.2.2.2.1 (by decide)
    have HD := hideT' td
    have hV6 := hV5.trans (hB6.mono hV5.size)
    clear hA6 td hV5 hB6
    go_wp2_with fail
    refine (implCompare_any t d w6 (HM.out hst) (HM.out hsd)).mono ?_
    rintro e w7 ⟨he, hB7⟩
    rw [← cmpAns_yes (by rw [HG.out.2, tx_good HD.out HS.out.2.2.2.2.1]; rfl), HF.out.2.2.1.2, HD.out.2] at he
    subst he
    obtain ⟨z, hz⟩ : ∃ z, z = cmpI (u : Int) ((r + r : Nat) : Int) := ⟨_, rfl⟩
    have hz0 : z ≤ 0 := by
      have := HF.out.2.2.2.2
      rw [hz]; unfold cmpI
      split <;> (try split) <;> omega
    rw [← hz]
    have hV7 := hV6.trans (hB7.mono hV6.size)
    clear hz hV6 hB7
    go_wp2
    go_ret
    exact ⟨rfl, hV7⟩
end Go.Proofs.YtmfpnbmfcoahbaaDoor
