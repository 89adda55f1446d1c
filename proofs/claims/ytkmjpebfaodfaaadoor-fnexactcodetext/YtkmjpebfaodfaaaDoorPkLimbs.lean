/-
  The texts Limbs, SpecCarry, one behind the other.
-/
import Derived.Test.YtkmjpebfaodfaaaDoorPkGood
import Derived.Test.YtkmjpebfaodfaaaDoorPkMath
import Derived.Deep.LoopGhost

/-
  What spec.l1Limbs answers: a number's text as parts of four digits, in new memory.
-/
namespace Go.Proofs.YtkmjpebfaodfaaaDoor
open Go.RowKit
set_option linter.unusedVariables false

/-- Numbers as cells. -/
def ints (l : List Int) : List Value := l.map (Value.int .i64)
theorem ints_len (l : List Int) : (ints l).length = l.length := by simp [ints]

/-- After j rounds: the last 4 j digits lie in j parts. -/
structure Lot (s : List UInt8) (j : Nat) (l : List Int) : Prop where
  len : l.length = j
  bd : ∀ x ∈ l, 0 ≤ x ∧ x < 10000
  val : vb 10000 l = (dval (s.drop (s.length - 4 * j)) : Int)

theorem Lot.zero (s : List UInt8) : Lot s 0 [] := ⟨rfl, by simp, by simp [vb, dval]⟩

theorem sub_digs {l : List UInt8} (h : l.all isDig = true) (f e : Nat) : ((l.take e).drop f).all isDig = true := by
  rw [List.all_eq_true] at *
  intro x hx
  exact h x (List.mem_of_mem_take (List.mem_of_mem_drop hx))

theorem drop_part (l : List UInt8) (f e : Nat) (h : f ≤ e) (he : e ≤ l.length) : l.drop f = (l.take e).drop f ++ l.drop e := by
  conv => lhs; rw [← List.take_append_drop e l]
  rw [List.drop_append_of_le_length (by simp; omega)]

theorem part_more (l : List UInt8) (f a : Nat) (h : f ≤ a) (ha : a < l.length) (hd : l.all isDig = true) :
    (dval ((l.take (a + 1)).drop f) : Int) = 10 * dval ((l.take a).drop f) + (((l[a].toNat : Nat) : Int) - 48) := by
  rw [List.take_succ_eq_append_getElem ha, List.drop_append_of_le_length (by simp; omega), dval_snoc]
  have := isDig_bd (List.all_eq_true.1 hd l[a] (List.getElem_mem ha))
  unfold dv; omega
theorem part_empty (l : List UInt8) (f : Nat) : dval ((l.take f).drop f) = 0 := by
  rw [List.drop_take]; simp [dval]

theorem Lot.step {s : List UInt8} {j : Nat} {l : List Int} (h : Lot s j l) (hs : s.all isDig = true) (he : 4 * j < s.length) :
    Lot s (j + 1) (l ++ [(dval ((s.take (s.length - 4 * j)).drop (s.length - 4 * (j + 1))) : Int)]) := by
  have hd := sub_digs hs (s.length - 4 * (j + 1)) (s.length - 4 * j)
  have h1 := dval_lt _ hd
  have h2 : ((s.take (s.length - 4 * j)).drop (s.length - 4 * (j + 1))).length ≤ 4 := by simp; omega
  have h3 : 10 ^ ((s.take (s.length - 4 * j)).drop (s.length - 4 * (j + 1))).length ≤ 10 ^ 4 := Nat.pow_le_pow_right (by omega) h2
  refine ⟨by simp [h.len], fun x hx => ?_, ?_⟩
  · rcases List.mem_append.1 hx with hx | hx
    · exact h.bd x hx
    · simp only [List.mem_singleton] at hx; subst hx; omega
  · rw [vb_snoc, h.val, h.len, drop_part s (s.length - 4 * (j + 1)) (s.length - 4 * j) (by omega) (by omega), dval_append]
    have e2 : (s.drop (s.length - 4 * j)).length = 4 * j := by simp; omega
    rw [e2]
    have e3 : (10000 : Int) ^ j = ((10 ^ (4 * j) : Nat) : Int) := by rw [Nat.pow_mul]; simp
    rw [e3]
    simp only [Int.natCast_add, Int.natCast_mul]
    rw [Int.mul_comm]; omega

theorem one_cell (v : Int) : ∀ u ∈ [Value.int .i64 v], u.oneCell' = true := by
  intro u hu; simp at hu; subst hu; rfl
theorem own_ge {w : World} {B e n : Nat} {v : Value} {xs : List Value} (h : w.ownsRow B e 1 v n xs) {k : Nat} (hk : v.ownBlock = some k) : B ≤ k := by
  rcases h.2 with ⟨rfl, _⟩ | ⟨g, cap, cur, rfl, hg, _⟩
  · simp [Value.ownBlock] at hk
  · simp [Value.ownBlock] at hk; omega
theorem Tryd.info_int : (Tryd.prog.info? 3).map (fun i => (i.zero, i.size, i.bytes)) = some (some (.int .i64 0), 1, 8) := by kernel_rfl

end Go.Proofs.YtkmjpebfaodfaaaDoor

/-
  What spec.l1Carry answers: parts within their bounds, the same number.
-/
namespace Go.Proofs.YtkmjpebfaodfaaaDoor
open Go.RowKit
set_option linter.unusedVariables false

/-- Where l1Carry stands. -/
structure Car (l0 : List Int) (t : Nat) (o : Int) (r : List Int) : Prop where
  len : r.length = l0.length
  lo : ∀ i, i < t → 0 ≤ r.getD i 0 ∧ r.getD i 0 < 10000
  rest : ∀ i, t ≤ i → r.getD i 0 = l0.getD i 0
  val : vb 10000 r + 10000 ^ t * o = vb 10000 l0
  bd : -1000000000 ≤ o ∧ o ≤ 1000000000

theorem getDset (p : List Int) (j i : Nat) (v : Int) (h : j < p.length) : (p.set j v).getD i 0 = if i = j then v else p.getD i 0 := by
  simp only [List.getD, List.getElem?_set]
  by_cases e : j = i
  · subst e; simp [h]
  · rw [if_neg e, if_neg (fun h => e h.symm)]

theorem Car.start (l : List Int) : Car l 0 0 l := ⟨rfl, fun i hi => by omega, fun _ _ => rfl, by simp, by omega⟩

theorem Car.step {l0 r : List Int} {t : Nat} {o q x : Int} (h : Car l0 t o r) (ht : t < l0.length) (hb : -1000000000000 ≤ l0.getD t 0 ∧ l0.getD t 0 ≤ 1000000000000)
    (hx : r.getD t 0 + o = 10000 * q + x) (x0 : 0 ≤ x) (x1 : x < 10000) : Car l0 (t + 1) q (r.set t x) := by
  have hr := h.rest t (Nat.le_refl _)
  have hl := h.len
  have ho := h.bd
  refine ⟨by simp [hl], fun i hi => ?_, fun i hi => ?_, ?_, by omega⟩
  · rw [getDset _ _ _ _ (by omega)]; split
    · exact ⟨x0, x1⟩
    · exact h.lo i (by omega)
  · rw [getDset _ _ _ _ (by omega), if_neg (by omega)]; exact h.rest i (by omega)
  · rw [vb_set _ _ _ _ (by omega), ← h.val, Int.pow_succ, Int.mul_assoc]
    have : (10000 : Int) ^ t * (x - r.getD t 0) + 10000 ^ t * (10000 * q) = 10000 ^ t * o := by
      rw [← Int.mul_add]; congr 1; omega
    omega

/-- All parts done: what is over comes behind them. -/
structure Tail (l0 : List Int) (o : Int) (r : List Int) : Prop where
  bd : ∀ x ∈ r, 0 ≤ x ∧ x < 10000
  val : vb 10000 r + 10000 ^ r.length * o = vb 10000 l0
  len : (r.length = l0.length ∧ -1000000000 ≤ o ∧ o ≤ 1000000000) ∨ (r.length = l0.length + 1 ∧ 0 ≤ o ∧ o ≤ 100000) ∨ (r.length = l0.length + 2 ∧ 0 ≤ o ∧ o ≤ 10) ∨ (r.length = l0.length + 3 ∧ o = 0)
  grow : r.length = l0.length ∨ (10000 : Int) ^ (r.length - 1) ≤ vb 10000 l0

theorem Car.tail {l0 r : List Int} {t : Nat} {o : Int} (h : Car l0 t o r) (ht : t = l0.length) : Tail l0 o r := by
  subst ht
  refine ⟨fun x hx => ?_, by rw [h.len]; exact h.val, .inl ⟨h.len, h.bd⟩, .inl h.len⟩
  obtain ⟨i, hi, rfl⟩ := List.getElem_of_mem hx
  have := h.lo i (by rw [← h.len]; exact hi)
  simpa [List.getD, hi] using this

theorem vb_nonneg (B : Int) (hB : 0 < B) (r : List Int) (k : Nat) (bd : ∀ x ∈ r, 0 ≤ x ∧ x < B) : 0 ≤ vb B r ∧ vb B r < B ^ r.length := by
  induction r with
  | nil => simp [vb]
  | cons x r ih =>
    have h1 := bd x (by simp)
    have h2 := ih (fun y hy => bd y (by simp [hy]))
    simp only [vb, List.length_cons, Int.pow_succ]
    have hm : B * (vb B r + 1) ≤ B * B ^ r.length := Int.mul_le_mul_of_nonneg_left (by omega) (by omega)
    have hn : 0 ≤ B * vb B r := Int.mul_nonneg (by omega) h2.1
    rw [Int.mul_add, Int.mul_comm B (B ^ r.length)] at hm
    omega

theorem Tail.step {l0 r : List Int} {o : Int} (h : Tail l0 o r) (ho : 0 < o) : Tail l0 (o / 10000) (r ++ [o % 10000]) := by
  refine ⟨fun x hx => ?_, ?_, ?_, .inr ?_⟩
  · rcases List.mem_append.1 hx with hx | hx
    · exact h.bd x hx
    · simp only [List.mem_singleton] at hx; omega
  · rw [vb_snoc, List.length_append, List.length_singleton, Int.pow_succ, Int.mul_assoc, ← h.val]
    have : (10000 : Int) ^ r.length * (o % 10000) + 10000 ^ r.length * (10000 * (o / 10000)) = 10000 ^ r.length * o := by
      rw [← Int.mul_add]; congr 1; omega
    omega
  · have := h.len
    simp only [List.length_append, List.length_singleton]
    omega
  · rw [List.length_append, List.length_singleton, Nat.add_sub_cancel, ← h.val]
    have hn := vb_nonneg 10000 (by omega) r 0 h.bd
    have hm : (10000 : Int) ^ r.length * 1 ≤ 10000 ^ r.length * o := Int.mul_le_mul_of_nonneg_left (by omega) (Int.le_of_lt (Int.pow_pos (by omega)))
    omega

theorem Tail.end {l0 r : List Int} {o : Int} (h : Tail l0 o r) (ho : ¬ 0 < o) (h0 : 0 ≤ vb 10000 l0) : vb 10000 r = vb 10000 l0 := by
  have hv := h.val
  have hn := vb_nonneg 10000 (by omega) r 0 h.bd
  by_cases e : o = 0
  · subst e; simpa using hv
  · have hm : (10000 : Int) ^ r.length * o ≤ 10000 ^ r.length * (-1) := Int.mul_le_mul_of_nonneg_left (by omega) (by omega)
    omega

/-- A cell of an owned row is written. -/
theorem own_set {w : World} {B g n cap : Nat} {l : List Int} (h : w.ownsRow B 3 1 (.slice (some ⟨g, 0, none⟩) n cap) n (ints l)) (j : Nat) (u : Int) :
    (w.setCell ⟨g, j, none⟩ (.int .i64 u)).ownsRow B 3 1 (.slice (some ⟨g, 0, none⟩) n cap) n (ints (l.set j u)) := by
  refine ⟨by have := h.1; simpa [ints] using this, ?_⟩
  rcases h.2 with ⟨e, _⟩ | ⟨g', cap', cur, e, hB, hg, h1, h2, h3, h4⟩
  · cases e
  · cases e
    refine .inr ⟨g, cap, _, rfl, hB, heap_setCell_same w g j cur 3 _ hg, h1, h2, by simpa using h3, ?_⟩
    rw [Array.toList_setIfInBounds, List.take_set, h4]
    simp [ints, List.map_set]
theorem own_cell {w : World} {B g n cap : Nat} {l : List Int} (h : w.ownsRow B 3 1 (.slice (some ⟨g, 0, none⟩) n cap) n (ints l)) (j : Nat) (hj : j < l.length) : w.cell? ⟨g, j, none⟩ = some (.int .i64 (l.getD j 0)) := by
  have := h.cells (g := g) rfl j (.int .i64 (l.getD j 0)) (by simp [ints, List.getD, List.getElem?_eq_getElem hj])
  have e : (⟨g, 0, none⟩ : Addr).add j = ⟨g, j, none⟩ := by unfold Addr.add; split <;> simp_all
  rw [e] at this; exact this
theorem own_fr {w : World} {B g n cap : Nat} {l : List Int} (h : w.ownsRow B 3 1 (.slice (some ⟨g, 0, none⟩) n cap) n (ints l)) (j : Nat) : w.frozen? ⟨g, j, none⟩ = false := by
  rcases h.2 with ⟨e, _⟩ | ⟨g', cap', cur, e, hB, hg, _⟩
  · cases e
  · cases e; exact frozen_of_row w g j cur 3 hg
/-- An owned row that is not empty lies somewhere. -/
theorem own_form {w : World} {B n : Nat} {v : Value} {l : List Int} (h : w.ownsRow B 3 1 v n (ints l)) (hn : 0 < n) : ∃ g cap, v = .slice (some ⟨g, 0, none⟩) n cap ∧ B ≤ g ∧ g < w.heap.size ∧ n ≤ cap ∧ cap ≤ maxLen := by
  rcases h.2 with ⟨_, e⟩ | ⟨g, cap, cur, rfl, hB, hg, h1, h2, _⟩
  · omega
  · exact ⟨g, cap, rfl, hB, (Array.getElem?_eq_some_iff.1 hg).1, h1, h2⟩

end Go.Proofs.YtkmjpebfaodfaaaDoor
