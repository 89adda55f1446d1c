/-
  Bezout's steps: plain facts; and the texts of whole numbers.
-/
import Derived.Test.YtmfpnbmfcoahbaaGreatDoorPkCutNum
import Derived.Test.YtmfpnbmfcoahbaaGreatDoorPkImplMulNum
import Derived.Test.YtmfpnbmfcoahbaaGreatDoorDec
namespace Go.Proofs.YtmfpnbmfcoahbaaGreatDoor
set_option linter.unusedVariables false

/-- Bezout's steps. -/
def bz (r' : Nat) (r : Nat) (x y x' y' : Int) : Nat × Int × Int :=
  if h : r' = 0 then (r, x, y) else bz (r % r') r' x' y' (x - ((r / r' : Nat) : Int) * x') (y - ((r / r' : Nat) : Int) * y')
termination_by r'
decreasing_by exact Nat.mod_lt _ (Nat.pos_of_ne_zero h)
theorem bz_end (r : Nat) (x y x' y' : Int) : bz 0 r x y x' y' = (r, x, y) := by rw [bz, dif_pos rfl]
theorem bz_step {r' : Nat} (h : r' ≠ 0) (r : Nat) (x y x' y' : Int) : bz r' r x y x' y' = bz (r % r') r' x' y' (x - ((r / r' : Nat) : Int) * x') (y - ((r / r' : Nat) : Int) * y') := by
  rw [bz, dif_neg h]
/-- One column's bound: their signs are unlike, and they make b across. -/
def Col (b : Int) (r r' : Nat) (x x' : Int) : Prop := (0 ≤ x ∧ x' ≤ 0 ∧ (r' : Int) * x - (r : Int) * x' = b) ∨ (x ≤ 0 ∧ 0 ≤ x' ∧ (r : Int) * x' - (r' : Int) * x = b)
theorem Col.step {b : Int} {r r' : Nat} {x x' : Int} (h : Col b r r' x x') : Col b r' (r % r') x' (x - ((r / r' : Nat) : Int) * x') := by
  unfold Col at h ⊢
  have e : (r : Int) = (r' : Int) * ((r / r' : Nat) : Int) + ((r % r' : Nat) : Int) := by exact_mod_cast (Nat.div_add_mod r r').symm
  have hq : (0 : Int) ≤ ((r / r' : Nat) : Int) := Int.natCast_nonneg _
  generalize ((r / r' : Nat) : Int) = q at *
  generalize ((r % r' : Nat) : Int) = s at *
  generalize (r : Int) = R at *
  generalize (r' : Int) = R' at *
  rcases h with ⟨h1, h2, h3⟩ | ⟨h1, h2, h3⟩
  · have h4 : 0 ≤ q * -x' := Int.mul_nonneg hq (by omega)
    have h5 : q * -x' = -(q * x') := by grind
    exact .inr ⟨h2, by omega, by grind⟩
  · have h4 : 0 ≤ q * x' := Int.mul_nonneg hq h2
    exact .inl ⟨h2, by omega, by grind⟩
theorem Col.bound {b : Int} {r r' : Nat} {x x' : Int} (h : Col b r r' x x') (hr : 0 < r') : (x - ((r / r' : Nat) : Int) * x').natAbs ≤ b.natAbs ∧ (((r / r' : Nat) : Int) * x').natAbs ≤ b.natAbs := by
  unfold Col at h
  have e : (r : Int) = (r' : Int) * ((r / r' : Nat) : Int) + ((r % r' : Nat) : Int) := by exact_mod_cast (Nat.div_add_mod r r').symm
  have hq : (0 : Int) ≤ ((r / r' : Nat) : Int) := Int.natCast_nonneg _
  have hs : (0 : Int) ≤ ((r % r' : Nat) : Int) := Int.natCast_nonneg _
  have hr1 : (1 : Int) ≤ (r' : Int) := by omega
  generalize ((r / r' : Nat) : Int) = q at *
  generalize ((r % r' : Nat) : Int) = s at *
  generalize (r : Int) = R at *
  generalize (r' : Int) = R' at *
  obtain ⟨p, hp⟩ : ∃ p, p = q * x' := ⟨_, rfl⟩
  rw [← hp]
  rcases h with ⟨h1, h2, h3⟩ | ⟨h1, h2, h3⟩
  · have h4 : 0 ≤ q * -x' := Int.mul_nonneg hq (by omega)
    have h5 : q * -x' = -(q * x') := by grind
    have h6 : 0 ≤ s * -x' := Int.mul_nonneg hs (by omega)
    have h7 : 0 ≤ (R' - 1) * (x - p) := Int.mul_nonneg (by omega) (by omega)
    have h8 : b = R' * (x - p) + s * -x' := by rw [← h3, e, hp]; grind
    have h9 : (R' - 1) * (x - p) = R' * (x - p) - (x - p) := by grind
    omega
  · have h4 : 0 ≤ q * x' := Int.mul_nonneg hq h2
    have h6 : 0 ≤ s * x' := Int.mul_nonneg hs h2
    have h7 : 0 ≤ (R' - 1) * (p - x) := Int.mul_nonneg (by omega) (by omega)
    have h8 : b = R' * (p - x) + s * x' := by rw [← h3, e, hp]; grind
    have h9 : (R' - 1) * (p - x) = R' * (p - x) - (p - x) := by grind
    omega
theorem Col.start_x (a b : Nat) : Col (b : Int) a b 1 0 := .inl ⟨by omega, by omega, by simp⟩
theorem Col.start_y (a b : Nat) : Col (a : Int) a b 0 1 := .inr ⟨by omega, by omega, by simp⟩

/-- s is the text of the whole number z. -/
def WT (s : ByteArray) (z : Int) : Prop := z.natAbs < 10 ^ 600 ∧ s.data.toList = (if z < 0 then [45] else []) ++ Lib.decDigits z.natAbs
theorem WT.inj {s t : ByteArray} {z : Int} (h : WT s z) (g : WT t z) : s = t := Go.WideShapes.bytes_inj (h.2.trans g.2.symm)
theorem no_cut {l : List UInt8} (h : l.all isDig = true) : cut47 l = (l, [], false) := by
  refine cut47_none l (fun k hk => ?_)
  have := List.all_eq_true.1 h 47 (List.mem_of_getElem? hk)
  revert this; decide
theorem dig_head {l : List UInt8} (h : canonB l = true) : (l.head? == some 45) = false := by
  cases l with
  | nil => simp [canonB] at h
  | cons c m =>
    have hc := (canon_cons h).1
    have : c ≠ 45 := by intro e; subst e; revert hc; decide
    simp [this]
theorem WT.parts {s : ByteArray} {z : Int} (h : WT s z) : negN s.data.toList = decide (z < 0) ∧ topN s.data.toList = z.natAbs ∧ botN s.data.toList = 1 ∧ okN s.data.toList = true := by
  obtain ⟨hc, hv⟩ := dec_canon z.natAbs
  have hneg : negN s.data.toList = decide (z < 0) := by
    rw [h.2]
    by_cases hz : z < 0
    · rw [if_pos hz, decide_eq_true hz]; rfl
    · rw [if_neg hz, decide_eq_false hz, List.nil_append]; exact dig_head hc
  have hbody : bodyN s.data.toList = Lib.decDigits z.natAbs := by
    unfold bodyN
    rw [hneg]
    by_cases hz : z < 0
    · rw [decide_eq_true hz, if_pos rfl, h.2, if_pos hz]; rfl
    · rw [decide_eq_false hz, if_neg (by decide), h.2, if_neg hz, List.nil_append]
  have hcut := no_cut (canon_all hc)
  have hover : overN s.data.toList = Lib.decDigits z.natAbs := by unfold overN; rw [hbody, hcut]
  have hbr : brokenN s.data.toList = false := by unfold brokenN; rw [hbody, hcut]
  refine ⟨hneg, by unfold topN; rw [hover, hv], by unfold botN; rw [hbr]; rfl, ?_⟩
  unfold okN
  rw [hover, hneg, hbr, hv]
  have hg : goodB (Lib.decDigits z.natAbs) = true := by
    unfold goodB
    rw [hc, decide_eq_true ((canon_len_le hc 600 (by omega)).2 (by rw [hv]; exact h.1))]; rfl
  rw [hg]
  by_cases hz : z < 0
  · rw [decide_eq_true hz, decide_eq_false (show ¬ z.natAbs = 0 by omega)]; rfl
  · rw [decide_eq_false hz]; rfl
theorem WT.of_num {s : ByteArray} {z : Int} {g : Bool} {n : Nat} (hz : z.natAbs < 10 ^ 600) (hn : n = z.natAbs) (hg : g = decide (z < 0)) (h : NumR 10 g n 1 s) : WT s z := by
  obtain ⟨t, u, h1, h2, h3⟩ := h
  subst hn hg
  refine ⟨hz, ?_⟩
  obtain ⟨hc, hv⟩ := dec_canon z.natAbs
  have e : t = ⟨(Lib.decDigits z.natAbs).toArray⟩ := h1.inj (InRad.dec (s := ⟨(Lib.decDigits z.natAbs).toArray⟩) hc hv)
  rw [h3, e, if_pos rfl, List.append_nil]
  by_cases h0 : z < 0
  · rw [if_pos h0, decide_eq_true h0]; rfl
  · rw [if_neg h0, decide_eq_false h0]; rfl
theorem one_lt_p (k : Nat) (hk : k ≠ 0) : 1 < 10 ^ k := Nat.one_lt_pow hk (by decide)
theorem one_lt_600 : (1 : Nat) < 10 ^ 600 := one_lt_p 600 (by decide)
theorem mulW {a b : ByteArray} {x y : Int} {e : Ending} (ha : WT a x) (hb : WT b y) (hlt : (x * y).natAbs < 10 ^ 600) (h : MulNAns false a b e) : ∃ s : ByteArray, e = .returned (.tuple #[.string s, .bool true]) ∧ WT s (x * y) := by
  obtain ⟨an, at', ab, ao⟩ := ha.parts
  obtain ⟨bn, bt, bb, bo⟩ := hb.parts
  have hT : mulTop false a b = (x * y).natAbs := by unfold mulTop; simp only [Bool.false_eq_true, if_false]; rw [at', bt, Int.natAbs_mul]
  have hB : mulBot false a b = 1 := by unfold mulBot; simp only [Bool.false_eq_true, if_false]; rw [ab, bb]
  have hok : mulOk false a b = true := by unfold mulOk; rw [ao, bo]; rfl
  rcases h with ⟨_, s, rfl, h1, _⟩ | ⟨h, _⟩
  · rw [hT, hB, Nat.gcd_one_right, Nat.div_one, Nat.div_one] at *
    have hd : (decide ((x * y).natAbs < 10 ^ 600) && decide (1 < 10 ^ 600)) = true := by rw [decide_eq_true hlt, decide_eq_true one_lt_600]; rfl
    rw [hd] at h1 ⊢
    refine ⟨s, rfl, WT.of_num hlt rfl ?_ (h1 rfl)⟩
    rw [an, bn]
    rcases Int.lt_trichotomy x 0 with hx | hx | hx
    · rcases Int.lt_trichotomy y 0 with hy | hy | hy
      · have := Int.mul_pos_of_neg_of_neg hx hy
        rw [decide_eq_true hx, decide_eq_true hy, decide_eq_false (show ¬ x * y < 0 by omega)]; rfl
      · subst hy; simp
      · have := Int.mul_neg_of_neg_of_pos hx hy
        rw [decide_eq_true hx, decide_eq_false (show ¬ y < 0 by omega), decide_eq_true this, decide_eq_true (show (x * y).natAbs ≠ 0 by omega)]; rfl
    · subst hx; simp
    · rcases Int.lt_trichotomy y 0 with hy | hy | hy
      · have := Int.mul_neg_of_pos_of_neg hx hy
        rw [decide_eq_false (show ¬ x < 0 by omega), decide_eq_true hy, decide_eq_true this, decide_eq_true (show (x * y).natAbs ≠ 0 by omega)]; rfl
      · subst hy; simp
      · have := Int.mul_pos hx hy
        rw [decide_eq_false (show ¬ x < 0 by omega), decide_eq_false (show ¬ y < 0 by omega), decide_eq_false (show ¬ x * y < 0 by omega)]; rfl
  · rw [hok] at h; cases h
theorem sg_abs_of (x : Int) : sg (decide (x < 0)) x.natAbs = x := by
  unfold sg
  by_cases h : x < 0
  · rw [decide_eq_true h]; simp; omega
  · rw [decide_eq_false h]; simp; omega
theorem sg_less (g : Bool) (n : Nat) : sg (g != true) n = - sg g n := by unfold sg; cases g <;> simp
theorem subW {a b : ByteArray} {x y : Int} {e : Ending} (ha : WT a x) (hb : WT b y) (hlt : (x - y).natAbs < 10 ^ 600) (h : AddNAns true a b e) : ∃ s : ByteArray, e = .returned (.tuple #[.string s, .bool true]) ∧ WT s (x - y) := by
  obtain ⟨an, at', ab, ao⟩ := ha.parts
  obtain ⟨bn, bt, bb, bo⟩ := hb.parts
  have hT : addZ true a b = x - y := by
    unfold addZ topZ
    rw [an, at', ab, bn, bt, bb, sg_less, sg_abs_of, sg_abs_of]; simp; omega
  have hB : addBot a b = 1 := by unfold addBot; rw [ab, bb]
  rcases h with ⟨_, s, rfl, h1, _⟩ | ⟨h, _⟩
  · rw [hT, hB, Nat.gcd_one_right, Nat.div_one, Nat.div_one] at *
    have hd : (decide ((x - y).natAbs < 10 ^ 600) && decide (1 < 10 ^ 600)) = true := by rw [decide_eq_true hlt, decide_eq_true one_lt_600]; rfl
    rw [hd] at h1 ⊢
    exact ⟨s, rfl, WT.of_num hlt rfl rfl (h1 rfl)⟩
  · rw [ao, bo] at h; cases h
end Go.Proofs.YtmfpnbmfcoahbaaGreatDoor
