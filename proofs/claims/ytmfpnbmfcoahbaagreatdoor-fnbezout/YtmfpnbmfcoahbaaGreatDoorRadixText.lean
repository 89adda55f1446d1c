/-
  The text of a number in a radix: plain facts.
-/
import Derived.Test.YtmfpnbmfcoahbaaGreatDoorPkLehmer
import Derived.Test.YtmfpnbmfcoahbaaGreatDoorDec
import Derived.WideShapes
namespace Go.Proofs.YtmfpnbmfcoahbaaGreatDoor
set_option linter.unusedVariables false

/-- A digit's byte. -/
def hx (d : Nat) : UInt8 := if d < 10 then UInt8.ofNat (48 + d) else UInt8.ofNat (87 + d)
/-- The first j digits of n, the least first. -/
def digs (b n j : Nat) : List UInt8 := (List.range j).map (fun i => hx (n / b ^ i % b))

theorem digs_len (b n j : Nat) : (digs b n j).length = j := by simp [digs]
theorem digs_snoc (b n j : Nat) : digs b n (j + 1) = digs b n j ++ [hx (n / b ^ j % b)] := by
  unfold digs; rw [List.range_succ, List.map_append]; rfl

/-- j is how many digits n has. -/
def Cnt (b n j : Nat) : Prop := 1 ≤ j ∧ n / b ^ j = 0 ∧ ∀ i, 1 ≤ i → i < j → n / b ^ i ≠ 0
theorem Cnt.inj {b n j k : Nat} (h : Cnt b n j) (g : Cnt b n k) : j = k := by
  rcases Nat.lt_trichotomy j k with h1 | h1 | h1
  · exact absurd h.2.1 (g.2.2 j h.1 h1)
  · exact h1
  · exact absurd g.2.1 (h.2.2 k g.1 h1)

/-- s is the text of n in the radix b. -/
def InRad (b n : Nat) (s : ByteArray) : Prop := ∃ j, Cnt b n j ∧ s.data.toList = (digs b n j).reverse
theorem InRad.inj {b n : Nat} {s t : ByteArray} (h : InRad b n s) (g : InRad b n t) : s = t := by
  obtain ⟨j, hj, e⟩ := h
  obtain ⟨k, hk, e'⟩ := g
  obtain rfl := hj.inj hk
  exact Go.WideShapes.bytes_inj (by rw [e, e'])

theorem hx_dig (d : Nat) (h : d < 10) : isDig (hx d) = true ∧ dv (hx d) = d := by
  unfold hx; rw [if_pos h]; exact dig_ofNat d h

theorem digs_all (n j : Nat) : (digs 10 n j).reverse.all isDig = true := by
  rw [List.all_reverse, List.all_eq_true]
  intro x hx'
  simp only [digs, List.mem_map] at hx'
  obtain ⟨i, _, rfl⟩ := hx'
  exact (hx_dig _ (Nat.mod_lt _ (by omega))).1

theorem digs_val (n j : Nat) : dval (digs 10 n j).reverse = n % 10 ^ j := by
  induction j with
  | zero => simp [digs, dval, Nat.mod_one]
  | succ j ih =>
    rw [digs_snoc, List.reverse_append, List.reverse_singleton, List.singleton_append, dval_cons, ih, List.length_reverse, digs_len, (hx_dig _ (Nat.mod_lt _ (by omega))).2, Nat.pow_succ, Nat.mod_mul]
    rw [Nat.mul_comm]; omega

theorem InRad.dec {n : Nat} {s : ByteArray} (hc : canonB s.data.toList = true) (hv : dval s.data.toList = n) : InRad 10 n s := by
  have hall := canon_all hc
  have hlt := dval_lt _ hall
  rw [hv] at hlt
  refine ⟨s.data.toList.length, ⟨canon_pos hc, Nat.div_eq_of_lt hlt, fun i h1 h2 => ?_⟩, ?_⟩
  · have hlow := canon_low hc (by omega)
    rw [hv] at hlow
    have : 10 ^ i ≤ 10 ^ (s.data.toList.length - 1) := Nat.pow_le_pow_right (by omega) (by omega)
    have := Nat.div_pos (Nat.le_trans this hlow) (Nat.pow_pos (by omega))
    omega
  · refine dval_inj_len _ _ hall (digs_all _ _) (by rw [List.length_reverse, digs_len]) ?_
    rw [digs_val, hv, Nat.mod_eq_of_lt hlt]

/-- While something is left there is room for one digit more. -/
theorem room_gen {b n j T K : Nat} (hb : 2 ≤ b) (hn : n < 10 ^ T) (hj : b ^ j ≤ n) : j < 4 * T := by
  have h1 : (2 : Nat) ^ j ≤ b ^ j := Nat.pow_le_pow_left hb j
  have h2 : (10 : Nat) ^ T ≤ (2 ^ 4) ^ T := Nat.pow_le_pow_left (by decide) T
  rw [← Nat.pow_mul] at h2
  have h3 : (2 : Nat) ^ j < 2 ^ (4 * T) := Nat.lt_of_le_of_lt (Nat.le_trans h1 hj) (Nat.lt_of_lt_of_le hn h2)
  exact (Nat.pow_lt_pow_iff_right (by decide)).1 h3

theorem div_step_pow (n b j : Nat) : n / b ^ j / b = n / b ^ (j + 1) := by rw [Nat.div_div_eq_div_mul, Nat.pow_succ]

theorem pow_le_of_div {n b j : Nat} (hb : 0 < b) (h : n / b ^ j ≠ 0) : b ^ j ≤ n := by
  by_cases e : b ^ j ≤ n
  · exact e
  · exact absurd (Nat.div_eq_of_lt (by omega)) h

theorem hx_table (d : Nat) (h : d < 16) : ((⟨#[48, 49, 50, 51, 52, 53, 54, 55, 56, 57, 97, 98, 99, 100, 101, 102]⟩ : ByteArray)[d]'(by simpa [ByteArray.size] using h)) = hx d := by
  have key : ∀ d : Fin 16, ((⟨#[48, 49, 50, 51, 52, 53, 54, 55, 56, 57, 97, 98, 99, 100, 101, 102]⟩ : ByteArray)[d.val]'(by have := d.isLt; simp [ByteArray.size])) = hx d.val := by decide
  exact key ⟨d, h⟩
end Go.Proofs.YtmfpnbmfcoahbaaGreatDoor
