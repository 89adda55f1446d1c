/-
  What tenTo of impl's nats answer.
-/
import Derived.Test.YtmfpnbmfcoahbaaDoorMoreMath
import Derived.Test.YtmfpnbmfcoahbaaDoorTimesWide
import Derived.Test.YtmfpnbmfcoahbaaDoorPkHeld
import Derived.Test.YtmfpnbmfcoahbaaDoorBaseLate
import Derived.Test.YtmfpnbmfcoahbaaDoorText
import Derived.Laws.CopyRow
namespace Go.Proofs.YtmfpnbmfcoahbaaDoor
open Go.RowKit
set_option linter.unusedVariables false

/-- It tells ten to a power. -/
def IsTen (t : Nat) (e : Ending) : Prop := ∃ y : Int, e = .returned (.int .i64 y) ∧ y = ((10 ^ t : Nat) : Int)
set_option maxHeartbeats 1000000 in
set_option maxRecDepth 100000 in
theorem tenTo_any (t : Nat) (w : World) (ht : t ≤ 5) :
    Calls Tryd.prog 85 #[.int .i64 (t : Int)] w fun e w' => IsTen t e ∧ w' = w := by
  go_enter Tryd.func85, Tryd.ntmps85
  go_wp2
  go_loopg [3, 5] t (fun g x i wr => ∃ (j : Nat) (y : Int), g = t - j ∧ j ≤ t ∧ x = .int .i64 y ∧ i = .int .i64 (j : Int) ∧ Hid (y = ((10 ^ j : Nat) : Int)) ∧ 0 ≤ y ∧ y ≤ 100000 ∧ wr = w)
  case atStart => exact ⟨0, 1, rfl, by omega, rfl, rfl, rfl, by omega, by omega, rfl⟩
  case round =>
    obtain ⟨j, y, hg, hj, rfl, rfl, HY, hy0, hy1, rfl⟩ := hrel
    by_cases hlt : (j : Int) < (t : Int)
    · obtain ⟨z, hz⟩ : ∃ z, y * 10 = z := ⟨_, rfl⟩
      have hwz : IntKind.i64.wrap z = z := by rw [IntKind.wrap_i64]; omega
      have HZ : Hid (z = ((10 ^ (j + 1) : Nat) : Int)) := by unfold Hid; rw [← hz, HY.out, Nat.pow_succ]; simp
      have hz1 : z ≤ 100000 := by
        rw [HZ.out]
        have : 10 ^ (j + 1) ≤ 10 ^ 5 := Nat.pow_le_pow_right (by decide) (by omega)
        have e5 : (10 : Nat) ^ 5 = 100000 := by decide
        omega
      go_wp2
      go_roundg (t - (j + 1))
      case measure => omega
      case rel => exact ⟨j + 1, z, rfl, by omega, rfl, by go_num, HZ, by omega, hz1, rfl⟩
    · obtain rfl : j = t := by omega
      go_wp2
      go_ret
      exact ⟨⟨y, rfl, HY.out⟩, rfl⟩

/-- How many digits a number has. -/
def Len (n L : Nat) : Prop := 1 ≤ L ∧ n < 10 ^ L ∧ (n ≠ 0 → 10 ^ (L - 1) ≤ n) ∧ (n = 0 → L = 1)
theorem Len.of_top {n k x L : Nat} (hx : 10 ^ (L - 1) ≤ x) (hx2 : x < 10 ^ L) (hL : 1 ≤ L) (h1 : x * 1000000 ^ k ≤ n) (h2 : n < (x + 1) * 1000000 ^ k) : Len n (6 * k + L) := by
  have e : (1000000 : Nat) ^ k = 10 ^ (6 * k) := by rw [show (1000000 : Nat) = 10 ^ 6 from rfl, ← Nat.pow_mul]
  rw [e] at h1 h2
  have hpos : 0 < 10 ^ (6 * k) := Nat.pow_pos (by decide)
  have hlow : 10 ^ (6 * k + L - 1) ≤ n := by
    rw [show 6 * k + L - 1 = (L - 1) + 6 * k by omega, Nat.pow_add]
    exact Nat.le_trans (Nat.mul_le_mul_right _ hx) h1
  refine ⟨by omega, ?_, fun _ => hlow, fun h => ?_⟩
  · rw [show 6 * k + L = L + 6 * k by omega, Nat.pow_add]
    exact Nat.lt_of_lt_of_le h2 (Nat.mul_le_mul_right _ hx2)
  · have : 0 < 10 ^ (6 * k + L - 1) := Nat.pow_pos (by decide)
    omega
theorem Rep.top_bd {n k : Nat} {p : List Int} (h : Rep n k p) (hk : 0 < k) : ∃ x : Nat, p.getD (k - 1) 0 = (x : Int) ∧ 0 < x ∧ x < 1000000 ∧ x * 1000000 ^ (k - 1) ≤ n ∧ n < (x + 1) * 1000000 ^ (k - 1) := by
  obtain ⟨x, hx⟩ : ∃ x : Nat, p.getD (k - 1) 0 = (x : Int) := ⟨(p.getD (k - 1) 0).toNat, by have := h.lo (k - 1); omega⟩
  have h0 := h.top hk
  have h1 := h.hi (k - 1)
  have hl := h.len
  have hle := h.le
  have hs := vb_split 1000000 p (k - 1) (by omega)
  have hd : vb 1000000 (p.drop (k - 1)) = (x : Int) := by
    rw [List.drop_eq_getElem_cons (by omega)]
    have e1 : p[k - 1]'(by omega) = (x : Int) := by rw [← hx]; simp [List.getD, show k - 1 < p.length by omega]
    simp only [vb, e1]
    rw [vb_zero 1000000 _ (fun i => by rw [getD_drop]; exact h.out _ (by omega))]; simp
  have ht := vb_lt 1000000 (by decide) (p.take (k - 1)) (k - 1) (fun i => by rw [getD_take]; split; exact h.lo i; omega) (fun i => by rw [getD_take]; split; exact h.hi i; omega) (fun i hi => by rw [getD_take, if_neg (by omega)])
  rw [h.val, hd] at hs
  refine ⟨x, hx, by omega, by omega, ?_, ?_⟩
  · have : ((x * 1000000 ^ (k - 1) : Nat) : Int) ≤ (n : Int) := by
      rw [Int.natCast_mul, Int.natCast_pow, Int.mul_comm]
      have : ((1000000 : Nat) : Int) = 1000000 := rfl
      rw [this]; omega
    exact_mod_cast this
  · have : (n : Int) < (((x + 1) * 1000000 ^ (k - 1) : Nat) : Int) := by
      rw [Int.natCast_mul, Int.natCast_pow, Int.natCast_add, Int.mul_comm, Int.mul_add]
      have : ((1000000 : Nat) : Int) = 1000000 := rfl
      rw [this]; omega
    exact_mod_cast this
theorem dec_len (x : Nat) (h : 0 < x) : 10 ^ ((Lib.decDigits x).length - 1) ≤ x ∧ x < 10 ^ (Lib.decDigits x).length ∧ 1 ≤ (Lib.decDigits x).length := by
  obtain ⟨h1, h2⟩ := dec_canon x
  refine ⟨?_, ?_, canon_pos h1⟩
  · by_cases hl : 1 < (Lib.decDigits x).length
    · have := canon_low h1 hl; rwa [h2] at this
    · have := canon_pos h1
      rw [show (Lib.decDigits x).length - 1 = 0 by omega]; exact h
  · have := dval_lt _ (canon_all h1); rwa [h2] at this
end Go.Proofs.YtmfpnbmfcoahbaaDoor
