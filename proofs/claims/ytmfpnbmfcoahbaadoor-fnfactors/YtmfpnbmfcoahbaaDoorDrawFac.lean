/-
  What spec.DrawFactorNat draws; what FactorNat's answer gives to a law.
-/
import Derived.Test.YtmfpnbmfcoahbaaDoorDrawPow
import Derived.Test.YtmfpnbmfcoahbaaDoorSpecFac
import Derived.Test.YtmfpnbmfcoahbaaDoorFacPrime
import Derived.Test.YtmfpnbmfcoahbaaDoorSpecRoot
import Derived.Test.YtmfpnbmfcoahbaaDoorNumAll
namespace Go.Proofs.YtmfpnbmfcoahbaaDoor
open Go.RowKit
set_option linter.unusedVariables false

set_option maxHeartbeats 2000000 in
set_option maxRecDepth 100000 in
theorem drawFactor_any (v : Value) (l : List Int) (w : World) (hC : Code w v l) :
    Calls Tryd.prog 16 #[v] w fun e w' => (∃ s : ByteArray, e = .returned (.string s) ∧ s.size ≤ 1000) ∧ Below w.heap.size w w' := by
  obtain ⟨hc0, hC0⟩ := cur_new hC
  have HC := hideT' (And.intro hc0 hC0)
  obtain ⟨o, cap, rfl⟩ := hC.1.len
  clear hC hc0 hC0
  go_enter Tryd.func16, Tryd.ntmps16
  go_wp2_with fail
  refine (smallDraw_any w.heap.size _ l 0 _ HC.out.1 HC.out.2 (by omega)).mono ?_
  rintro e w1 ⟨⟨a1, rfl, ha1⟩, hc1, hg1⟩
  have HC1 := hideT' (And.intro hc1 (And.intro (HC.out.2.grown hg1) hg1))
  clear hc1 hg1
  go_wp2_with fail
  refine (natDraw_any w.heap.size _ l (0 + 2) w1 HC1.out.1 HC1.out.2.1 (by omega)).mono ?_
  rintro e w2 ⟨⟨a2, rfl, ha2⟩, hc2, hg2⟩
  have HC2 := hideT' (And.intro hc2 (And.intro (HC1.out.2.1.grown hg2) (HC1.out.2.2.trans hg2)))
  have hbl2 : w.heap.size < w2.heap.size := hc2.lt
  clear hc2 hg2
  go_wp2_with fail
  have HT := hideT' (texts_new w2 [a1, a2, ⟨#[49, 48, 48, 48, 48, 48, 48, 48, 48, 55]⟩, ⟨#[57, 57, 57, 57, 57, 57, 48, 48, 48, 48, 48, 49]⟩, ⟨#[49, 48, 48, 48, 48, 48, 48, 48, 48, 48, 48, 48, 48]⟩, ⟨#[49, 48, 48, 48, 48, 48, 48, 48, 48, 48, 48, 48, 49]⟩, ⟨#[49]⟩, ⟨#[48]⟩, ⟨#[55, 50, 48, 55, 50, 48]⟩] 1000 (by
    intro t ht
    simp only [List.mem_cons, List.not_mem_nil, or_false] at ht
    rcases ht with rfl | rfl | rfl | rfl | rfl | rfl | rfl | rfl | rfl
    · omega
    · omega
    all_goals decide))
  have hag := alloc_grown w2 (.cells #[.string a1, .string a2, .string ⟨#[49, 48, 48, 48, 48, 48, 48, 48, 48, 55]⟩, .string ⟨#[57, 57, 57, 57, 57, 57, 48, 48, 48, 48, 48, 49]⟩, .string ⟨#[49, 48, 48, 48, 48, 48, 48, 48, 48, 48, 48, 48, 48]⟩, .string ⟨#[49, 48, 48, 48, 48, 48, 48, 48, 48, 48, 48, 48, 49]⟩, .string ⟨#[49]⟩, .string ⟨#[48]⟩, .string ⟨#[55, 50, 48, 55, 50, 48]⟩] 9)
  refine (of_any w2.heap.size 9 1000 9 (by omega) (by omega) w.heap.size _ l (0 + 2 + 1000) _ (HC2.out.1.grown (hag none) (by simp)) (HC2.out.2.1.grown (hag (some w.heap.size))) (by omega) HT.out (by omega) (by simp)).mono ?_
  rintro e w3 ⟨⟨t, rfl, ht⟩, hc3, hg3⟩
  have HB := hideT' (cur_below (HC2.out.2.2.trans ((hag (some w.heap.size)).trans hg3)))
  clear hc3 hg3 hag
  go_wp2
  go_ret
  exact ⟨⟨t, rfl, ht⟩, HB.out⟩

theorem fa_small {s : ByteArray} (h : s.size ≤ 1000) : s.size ≤ maxLen := by unfold maxLen; omega
theorem fa_told {g : Bool} {n : Nat} {e : Ending} (h : Ans g n e) (hg : g = true) (hn : n < 10 ^ 600) : ∃ s : ByteArray, e = .returned (.tuple #[.string s, .bool true]) ∧ Tx s n := by
  rcases h with ⟨_, s, he, h1, _⟩ | ⟨h, _⟩
  · exact ⟨s, by rw [he, decide_eq_true hn], h1 hn⟩
  · rw [hg] at h; cases h
theorem fa_good {s : ByteArray} {n : Nat} (h : Tx s n) (hn : n < 10 ^ 600) : goodB s.data.toList = true := by
  have h2 : s.size ≤ 600 := canon_size (k := 600) (by decide) h.1 h.2 hn
  unfold goodB
  exact Bool.and_eq_true_iff.2 ⟨decide_eq_true (by rw [Array.length_toList]; exact h2), h.1⟩
theorem e12 {n k : Nat} (h : n ≤ 1000000000000) (hk : 13 ≤ k) : n < 10 ^ k := Nat.lt_of_le_of_lt h (Nat.lt_of_lt_of_le (show 1000000000000 < 10 ^ 13 by decide) (Nat.pow_le_pow_right (by decide) hk))
theorem numTx (f : Nat) : Tx (numB (f : Int)) f := by
  obtain ⟨hc, hv⟩ := dec_canon f
  exact ⟨by rw [numB_data, itoa_nat]; exact hc, by rw [numB_data, itoa_nat]; exact hv⟩
theorem facNo {a : ByteArray} {w w' : World} {e : Ending} (h : FacAns a w e w') (ho : facOk a = false) : e = .returned (.tuple #[.slice none 0 0, .bool false]) := by
  rcases h with ⟨h, _⟩ | ⟨_, h⟩
  · rw [ho] at h; cases h
  · exact h
theorem facOk_bd {a : ByteArray} (h : facOk a = true) : goodB a.data.toList = true ∧ 2 ≤ dval a.data.toList ∧ dval a.data.toList ≤ 1000000000000 := by
  unfold facOk at h
  simp only [Bool.and_eq_true, decide_eq_true_eq] at h
  exact h
theorem prod_two (l : List Nat) (h : ∀ f ∈ l, 2 ≤ f) : 2 ^ l.length ≤ prodN l := by
  induction l with
  | nil => simp [prodN]
  | cons f l ih =>
    have h1 := ih (fun g hg => h g (List.mem_cons_of_mem _ hg))
    have h2 := h f (List.mem_cons_self ..)
    rw [List.length_cons, Nat.pow_succ, prodN, Nat.mul_comm]
    exact Nat.mul_le_mul h2 h1
/-- What a law wants of the factors of N. -/
theorem fac_law {N : Nat} (h2 : 2 ≤ N) (hN : N ≤ 1000000000000) {F : List Nat} (hF : F = fac 2 N) : F ≠ [] ∧ F.length ≤ 40 ∧ prodN F = N ∧ (∀ k, prodN (F.take k) ≤ 1000000000000) ∧ (∀ k, k < F.length → fac 2 (F.getD k 0) = [F.getD k 0] ∧ 2 ≤ F.getD k 0 ∧ F.getD k 0 ≤ 1000000000000 ∧ prodN (F.take (k + 1)) = prodN (F.take k) * F.getD k 0) ∧ (∀ j k, k < F.length → j < k → F.getD j 0 ≤ F.getD k 0) := by
  subst hF
  obtain ⟨h1, hp, hs⟩ := fac_all 2 N (Nat.le_refl _) (by omega) (Rough.two N)
  have hmem : ∀ k, k < (fac 2 N).length → (fac 2 N).getD k 0 ∈ fac 2 N := fun k hk => by
    rw [List.getD_eq_getElem?_getD, List.getElem?_eq_getElem hk, Option.getD_some]; exact List.getElem_mem hk
  have hpos : ∀ k, prodN ((fac 2 N).take k) ≤ N := fun k => by
    have e := prodN_app ((fac 2 N).take k) ((fac 2 N).drop k)
    rw [List.take_append_drop, hp] at e
    exact Nat.le_of_dvd (by omega) ⟨_, e⟩
  refine ⟨fun h => ?_, ?_, hp, fun k => Nat.le_trans (hpos k) hN, fun k hk => ?_, fun j k hk hj => ?_⟩
  · rw [h] at hp; simp only [prodN] at hp; omega
  · have h3 := prod_two _ (fun f hf => (h1 f hf).2.1)
    rw [hp] at h3
    exact few (k := (fac 2 N).length) (n := 1) (by rw [Nat.mul_one]; exact h3) (by omega) hN
  · obtain ⟨q1, q2, q3⟩ := h1 _ (hmem k hk)
    refine ⟨fac_prm q1 2 (Nat.le_refl _), q2, Nat.le_trans (Nat.le_of_dvd (by omega) q3) hN, ?_⟩
    rw [List.take_add_one, prodN_app, List.getD_eq_getElem?_getD, List.getElem?_eq_getElem hk]
    simp [prodN]
  · have := List.pairwise_iff_getElem.1 hs j k (by omega) hk hj
    rw [List.getD_eq_getElem?_getD, List.getD_eq_getElem?_getD, List.getElem?_eq_getElem hk, List.getElem?_eq_getElem (show j < (fac 2 N).length by omega)]
    exact this
theorem facYes {a : ByteArray} {w w' : World} {e : Ending} (h : FacAns a w e w') (ho : facOk a = true) {F : List Nat} (hF : F = fac 2 (dval a.data.toList)) : ∃ b cap : Nat, e = .returned (.tuple #[.slice (some ⟨b, 0, none⟩) F.length cap, .bool true]) ∧ b < w'.heap.size ∧ ∀ j, j < F.length → w'.cell? ⟨b, j, none⟩ = some (.string (numB ((F.getD j 0 : Nat) : Int))) := by
  obtain ⟨_, q1, q2⟩ := facOk_bd ho
  have hne := (fac_law q1 q2 hF).1
  rcases h with ⟨_, v, he, hO⟩ | ⟨h, _⟩
  · rw [← hF] at hO
    obtain ⟨o, cap, rfl, hI⟩ := OwnR.inR (l := txL F) hO stringL_len
    obtain ⟨b, rfl, hb, hc⟩ := hI (fun h0 => hne (List.map_eq_nil_iff.1 h0))
    refine ⟨b, cap, by rw [he, txL_few], hb, fun j hj => ?_⟩
    have e1 : (txL F).getD j default = numB ((F.getD j 0 : Nat) : Int) := by
      unfold txL
      rw [List.getD_eq_getElem?_getD, List.getElem?_map, List.getD_eq_getElem?_getD, List.getElem?_eq_getElem hj]; rfl
    have := hc j 0 (.string (numB ((F.getD j 0 : Nat) : Int))) (by rw [txL_few]; exact hj) (by rw [e1]; rfl)
    simpa using this
  · rw [ho] at h; cases h
theorem facOne {s : ByteArray} {f : Nat} {w w' : World} {e : Ending} (h : FacAns s w e w') (ho : facOk s = true) (hv : dval s.data.toList = f) (hf : fac 2 f = [f]) (hs : s = numB (f : Int)) : ∃ b cap : Nat, e = .returned (.tuple #[.slice (some ⟨b, 0, none⟩) 1 cap, .bool true]) ∧ b < w'.heap.size ∧ w'.cell? ⟨b, 0, none⟩ = some (.string s) := by
  obtain ⟨b, cap, h1, h2, h3⟩ := facYes h ho (F := [f]) (by rw [hv, hf])
  exact ⟨b, cap, h1, h2, by have := h3 0 (by simp); rw [hs]; simpa using this⟩
end Go.Proofs.YtmfpnbmfcoahbaaDoor
