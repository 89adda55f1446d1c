/-
  Lehmer's way to the greatest common divisor: plain facts.
-/
import Derived.Test.YtjgpjafndaikcaaDoorDivMath
namespace Go.Proofs.YtjgpjafndaikcaaDoor
set_option linter.unusedVariables false

/-- Where sureSteps stands: x, y are what the mix makes of X, Y, which N, B begin with. -/
structure Mix (X Y N B x y n1 b1 n2 b2 : Int) : Prop where
  hx : x = n1 * X + b1 * Y
  hy : y = n2 * X + b2 * Y
  a1 : 0 ≤ x + n1
  a2 : 0 ≤ x + b1
  c1 : 0 ≤ y + n2
  c2 : 0 ≤ y + b2
  sg : (0 ≤ n1 ∧ b1 ≤ 0 ∧ n2 ≤ 0 ∧ 0 ≤ b2 ∧ X = b2 * x - b1 * y ∧ Y = n1 * y - n2 * x) ∨ (n1 ≤ 0 ∧ 0 ≤ b1 ∧ 0 ≤ n2 ∧ b2 ≤ 0 ∧ X = b1 * y - b2 * x ∧ Y = n2 * x - n1 * y)
  bd : (-1000000000 ≤ n1 ∧ n1 ≤ 1000000000) ∧ (-1000000000 ≤ b1 ∧ b1 ≤ 1000000000) ∧ (-1000000000 ≤ n2 ∧ n2 ≤ 1000000000) ∧ (-1000000000 ≤ b2 ∧ b2 ≤ 1000000000)
  gc : Int.gcd (n1 * N + b1 * B) (n2 * N + b2 * B) = Int.gcd N B
  xy : x < 1000000000000000000 ∧ y < 1000000000000000000
  st : (n1 = 1 ∧ b1 = 0 ∧ n2 = 0 ∧ b2 = 1) ∨ (n2 * N + b2 * B < n1 * N + b1 * B ∧ n1 * N + b1 * B ≤ B)

theorem Mix.start (X Y N B : Int) (hX : 0 ≤ X) (hY : 0 ≤ Y) (hX1 : X < 1000000000000000000) (hY1 : Y < 1000000000000000000) : Mix X Y N B X Y 1 0 0 1 :=
  ⟨by omega, by omega, by omega, by omega, by omega, by omega, .inl ⟨by omega, by omega, by omega, by omega, by omega, by omega⟩, by omega, by simp, ⟨hX1, hY1⟩, .inl ⟨rfl, rfl, rfl, rfl⟩⟩

/-- Neither of both numbers is below 0. -/
theorem mix_low {X Y S N' B' x n1 b1 : Int} (hx : x = n1 * X + b1 * Y) (a1 : 0 ≤ x + n1) (a2 : 0 ≤ x + b1) (sg : (0 ≤ n1 ∧ b1 ≤ 0) ∨ (n1 ≤ 0 ∧ 0 ≤ b1))
    (hN : 0 ≤ N') (hN1 : N' < S) (hB : 0 ≤ B') (hB1 : B' < S) : 0 ≤ n1 * (X * S + N') + b1 * (Y * S + B') := by
  have e : n1 * (X * S + N') + b1 * (Y * S + B') = x * S + n1 * N' + b1 * B' := by rw [hx]; grind
  rw [e]
  rcases sg with ⟨h1, h2⟩ | ⟨h1, h2⟩
  · have g1 : 0 ≤ (x + b1) * S := Int.mul_nonneg a2 (by omega)
    have g2 : 0 ≤ (-b1) * (S - B') := Int.mul_nonneg (by omega) (by omega)
    have g3 : 0 ≤ n1 * N' := Int.mul_nonneg h1 hN
    grind
  · have g1 : 0 ≤ (x + n1) * S := Int.mul_nonneg a1 (by omega)
    have g2 : 0 ≤ (-n1) * (S - N') := Int.mul_nonneg (by omega) (by omega)
    have g3 : 0 ≤ b1 * B' := Int.mul_nonneg h2 hB
    grind

/-- What is below 0 at both ends is below 0. -/
theorem mix_high {S N' B' z u v : Int} (h1 : z + u ≤ -1) (h2 : z + v ≤ -1) (sg : (0 ≤ u ∧ v ≤ 0) ∨ (u ≤ 0 ∧ 0 ≤ v))
    (hN : 0 ≤ N') (hN1 : N' < S) (hB : 0 ≤ B') (hB1 : B' < S) : z * S + u * N' + v * B' < 0 := by
  rcases sg with ⟨s1, s2⟩ | ⟨s1, s2⟩
  · have g1 : 0 ≤ (-(z + u) - 1) * S := Int.mul_nonneg (by omega) (by omega)
    have g2 : 0 ≤ u * (S - N') := Int.mul_nonneg s1 (by omega)
    have g3 : 0 ≤ (-v) * B' := Int.mul_nonneg (by omega) hB
    grind
  · have g1 : 0 ≤ (-(z + v) - 1) * S := Int.mul_nonneg (by omega) (by omega)
    have g2 : 0 ≤ v * (S - B') := Int.mul_nonneg s2 (by omega)
    have g3 : 0 ≤ (-u) * N' := Int.mul_nonneg (by omega) hN
    grind

theorem sq_bound {a x Z : Int} (h0 : 0 ≤ a) (h1 : a ≤ x) (h2 : a * x ≤ Z) (hZ : Z < 1000000000000000000) : a ≤ 1000000000 := by
  rcases Int.lt_or_le 1000000000 a with h | h
  · have g1 : 0 ≤ a * (x - a) := Int.mul_nonneg h0 (by omega)
    have g2 : 0 ≤ (a - 1000000000) * (a - 1000000000) := Int.mul_nonneg (by omega) (by omega)
    grind
  · exact h

/-- One step more. -/
theorem Mix.step {X Y S N' B' x y n1 b1 n2 b2 q : Int} (h : Mix X Y (X * S + N') (Y * S + B') x y n1 b1 n2 b2) (hX1 : X < 1000000000000000000) (hY1 : Y < 1000000000000000000)
    (hN : 0 ≤ N') (hN1 : N' < S) (hB : 0 ≤ B') (hB1 : B' < S) (d1 : y + n2 ≠ 0) (d2 : y + b2 ≠ 0) (q1 : (x + n1) / (y + n2) = q) (q2 : (x + b1) / (y + b2) = q) :
    Mix X Y (X * S + N') (Y * S + B') y (x - q * y) n2 b2 (n1 - q * n2) (b1 - q * b2) ∧ 0 ≤ q ∧ 0 ≤ x - q * y ∧ 0 ≤ q * y ∧ 0 ≤ y ∧ x - q * y < y := by
  obtain ⟨hx, hy, a1, a2, c1, c2, sg, bd, gc, xy, st⟩ := h
  have p1 : 0 < y + n2 := by omega
  have p2 : 0 < y + b2 := by omega
  have e1 := Int.mul_ediv_add_emod (x + n1) (y + n2)
  have e2 := Int.mul_ediv_add_emod (x + b1) (y + b2)
  have l1 := Int.emod_nonneg (x + n1) d1
  have l2 := Int.emod_nonneg (x + b1) d2
  have u1 := Int.emod_lt_of_pos (x + n1) p1
  have u2 := Int.emod_lt_of_pos (x + b1) p2
  have q0 : 0 ≤ q := by rw [← q1]; exact Int.ediv_nonneg a1 c1
  rw [q1] at e1
  rw [q2] at e2
  generalize (x + n1) % (y + n2) = r1 at *
  generalize (x + b1) % (y + b2) = r2 at *
  have f1 : (x - q * y) + (n1 - q * n2) = r1 := by grind
  have f2 : (x - q * y) + (b1 - q * b2) = r2 := by grind
  have y0 : 0 ≤ y := by rcases sg with s | s <;> omega
  have s0 : 0 ≤ q * y := Int.mul_nonneg q0 y0
  -- the new mix's signs
  have ns : (0 ≤ n2 ∧ b2 ≤ 0 ∧ n1 - q * n2 ≤ 0 ∧ 0 ≤ b1 - q * b2 ∧ X = (b1 - q * b2) * y - b2 * (x - q * y) ∧ Y = n2 * (x - q * y) - (n1 - q * n2) * y) ∨ (n2 ≤ 0 ∧ 0 ≤ b2 ∧ 0 ≤ n1 - q * n2 ∧ b1 - q * b2 ≤ 0 ∧ X = b2 * (x - q * y) - (b1 - q * b2) * y ∧ Y = (n1 - q * n2) * y - n2 * (x - q * y)) := by
    rcases sg with ⟨s1, s2, s3, s4, s5, s6⟩ | ⟨s1, s2, s3, s4, s5, s6⟩
    · right
      have t1 : 0 ≤ q * (-n2) := Int.mul_nonneg q0 (by omega)
      have t2 : 0 ≤ q * b2 := Int.mul_nonneg q0 s4
      exact ⟨s3, s4, by grind, by grind, by rw [s5]; grind, by rw [s6]; grind⟩
    · left
      have t1 : 0 ≤ q * n2 := Int.mul_nonneg q0 s3
      have t2 : 0 ≤ q * (-b2) := Int.mul_nonneg q0 (by omega)
      exact ⟨s3, s4, by grind, by grind, by rw [s5]; grind, by rw [s6]; grind⟩
  generalize hn : n1 - q * n2 = n3 at *
  generalize hb : b1 - q * b2 = b3 at *
  generalize hz : x - q * y = z at *
  have z0 : 0 ≤ z := by rcases ns with s | s <;> omega
  have zy : z < y := by rcases ns with s | s <;> omega
  have bd3 : (-1000000000 ≤ n3 ∧ n3 ≤ 1000000000) ∧ (-1000000000 ≤ b3 ∧ b3 ≤ 1000000000) := by
    rcases ns with ⟨s1, s2, s3, s4, s5, s6⟩ | ⟨s1, s2, s3, s4, s5, s6⟩
    · have t1 : 0 ≤ n2 * z := Int.mul_nonneg s1 z0
      have t2 : 0 ≤ (-b2) * z := Int.mul_nonneg (by omega) z0
      have v1 := sq_bound (a := -n3) (x := y) (Z := Y) (by omega) (by omega) (by grind) hY1
      have v2 := sq_bound (a := b3) (x := y) (Z := X) (by omega) (by omega) (by grind) hX1
      omega
    · have t1 : 0 ≤ (-n2) * z := Int.mul_nonneg (by omega) z0
      have t2 : 0 ≤ b2 * z := Int.mul_nonneg s2 z0
      have v1 := sq_bound (a := n3) (x := y) (Z := Y) (by omega) (by omega) (by grind) hY1
      have v2 := sq_bound (a := -b3) (x := y) (Z := X) (by omega) (by omega) (by grind) hX1
      omega
  refine ⟨⟨hy, by rw [← hz, ← hn, ← hb, hx, hy]; grind, c1, c2, by omega, by omega, ns, ⟨bd.2.2.1, bd.2.2.2, bd3.1, bd3.2⟩, ?_, ⟨xy.2, by omega⟩, .inr ?_⟩, q0, z0, s0, y0, zy⟩
  · rw [← gc, Int.gcd_comm]
    have e : n3 * (X * S + N') + b3 * (Y * S + B') = (n1 * (X * S + N') + b1 * (Y * S + B')) + (-q) * (n2 * (X * S + N') + b2 * (Y * S + B')) := by rw [← hn, ← hb]; grind
    rw [e]
    exact Int.gcd_add_mul_right_left ..
  · have m1 : n3 * (X * S + N') + b3 * (Y * S + B') < n2 * (X * S + N') + b2 * (Y * S + B') := by
      have g := mix_high (S := S) (N' := N') (B' := B') (z := z - y) (u := n3 - n2) (v := b3 - b2) (by omega) (by omega) (by rcases ns with s | s <;> omega) hN hN1 hB hB1
      have e : n3 * (X * S + N') + b3 * (Y * S + B') - (n2 * (X * S + N') + b2 * (Y * S + B')) = (z - y) * S + (n3 - n2) * N' + (b3 - b2) * B' := by
        have : z = n3 * X + b3 * Y := by rw [← hz, ← hn, ← hb, hx, hy]; grind
        rw [this, hy]; grind
      omega
    refine ⟨m1, ?_⟩
    rcases st with ⟨t1, t2, t3, t4⟩ | ⟨t1, t2⟩
    · subst t1 t2 t3 t4; omega
    · omega

/-- A number by its first three parts and what stands behind. -/
theorem lead_split {n k : Nat} {p : List Int} (h : Rep n k p) (T : Nat) (hk : k ≤ T + 3) (hT : T + 3 ≤ 204) :
    ∃ r : Int, 0 ≤ r ∧ r < 1000000 ^ T ∧ (n : Int) = ((p.getD (T + 2) 0 * 1000000 + p.getD (T + 1) 0) * 1000000 + p.getD T 0) * 1000000 ^ T + r := by
  have hl := h.len
  have b := vb_lt 1000000 (by omega) (p.take T) T (fun j => by rw [getD_take]; split; exact h.lo j; omega) (fun j => by rw [getD_take]; split; exact h.hi j; omega) (fun j hj => by rw [getD_take, if_neg (by omega)])
  refine ⟨vb 1000000 (p.take T), b.1, b.2, ?_⟩
  rw [← h.val, vb_split 1000000 p T (by omega), drop_val6 p T (by omega), drop_val6 p (T + 1) (by omega), drop_val6 p (T + 1 + 1) (by omega),
    vb_zero 1000000 (p.drop (T + 1 + 1 + 1)) (fun i => by rw [getD_drop]; exact h.out _ (by omega))]
  generalize vb 1000000 (p.take T) = r
  generalize (1000000 : Int) ^ T = S
  generalize p.getD T 0 = a
  generalize p.getD (T + 1) 0 = b
  show _ = ((p.getD (T + 1 + 1) 0 * 1000000 + b) * 1000000 + a) * S + r
  generalize p.getD (T + 1 + 1) 0 = c
  grind

theorem lead_bd {n k : Nat} {p : List Int} (h : Rep n k p) (a b c : Nat) :
    0 ≤ (p.getD a 0 * 1000000 + p.getD b 0) * 1000000 + p.getD c 0 ∧ (p.getD a 0 * 1000000 + p.getD b 0) * 1000000 + p.getD c 0 < 1000000000000000000 := by
  have := h.lo a; have := h.hi a; have := h.lo b; have := h.hi b; have := h.lo c; have := h.hi c
  omega

/-- x times the parts of p below j and y times those of q. -/
def combTo (p q : List Int) (x y : Int) : Nat → List Int
  | 0 => p
  | j + 1 => (combTo p q x y j).set j (x * (combTo p q x y j).getD j 0 + y * q.getD j 0)

theorem combTo_len (p q : List Int) (x y : Int) (j : Nat) : (combTo p q x y j).length = p.length := by
  induction j with
  | zero => rfl
  | succ j ih => simp [combTo, ih]
theorem combTo_get (p q : List Int) (x y : Int) (j i : Nat) (hj : j ≤ p.length) : (combTo p q x y j).getD i 0 = if i < j then x * p.getD i 0 + y * q.getD i 0 else p.getD i 0 := by
  induction j with
  | zero => simp [combTo]
  | succ j ih =>
    unfold combTo
    rw [getD_set _ _ _ _ (by rw [combTo_len]; omega)]
    by_cases e : i = j
    · subst e; rw [if_pos rfl, ih (by omega), if_neg (by omega), if_pos (by omega)]
    · rw [if_neg e, ih (by omega)]
      by_cases h : i < j
      · rw [if_pos h, if_pos (by omega)]
      · rw [if_neg h, if_neg (by omega)]
theorem combTo_val (p q : List Int) (x y : Int) (j : Nat) (hj : j ≤ p.length) (hq : j ≤ q.length) :
    vb 1000000 (combTo p q x y j) = x * vb 1000000 (p.take j) + y * vb 1000000 (q.take j) + 1000000 ^ j * vb 1000000 (p.drop j) := by
  induction j with
  | zero => simp [combTo, vb]
  | succ j ih =>
    unfold combTo
    rw [vb_set _ _ _ _ (by rw [combTo_len]; omega), ih (by omega) (by omega), List.take_succ_eq_append_getElem (by omega), List.take_succ_eq_append_getElem (l := q) (by omega), vb_snoc, vb_snoc, drop_val6 p j (by omega), combTo_get _ _ _ _ _ _ (by omega), if_neg (by omega)]
    have e1 : q.getD j 0 = q[j] := by simp [List.getD, show j < q.length by omega]
    have e2 : p.getD j 0 = p[j] := by simp [List.getD, show j < p.length by omega]
    rw [e1, e2, List.length_take, List.length_take, Nat.min_eq_left (by omega), Nat.min_eq_left (by omega), Int.pow_succ]
    generalize (1000000 : Int) ^ j = S
    generalize vb 1000000 (List.take j p) = u
    generalize vb 1000000 (List.take j q) = v
    generalize vb 1000000 (List.drop (j + 1) p) = z
    generalize p[j] = a
    generalize q[j] = b
    grind
theorem comb_val {n m k j : Nat} {p q : List Int} (hP : Rep n k p) (hQ : Rep m j q) (x y : Int) (t : Nat) (ht : t ≤ 204) (hk : k ≤ t) (hj : j ≤ t) :
    vb 1000000 (combTo p q x y t) = x * (n : Int) + y * (m : Int) := by
  have hp := hP.len
  have hq := hQ.len
  rw [combTo_val _ _ _ _ _ (by omega) (by omega), vb_zero 1000000 (p.drop t) (fun i => by rw [getD_drop]; exact hP.out _ (by omega))]
  have e1 : vb 1000000 (p.take t) = (n : Int) := by
    rw [← hP.val, vb_split 1000000 p t (by omega), vb_zero 1000000 (p.drop t) (fun i => by rw [getD_drop]; exact hP.out _ (by omega))]; simp
  have e2 : vb 1000000 (q.take t) = (m : Int) := by
    rw [← hQ.val, vb_split 1000000 q t (by omega), vb_zero 1000000 (q.drop t) (fun i => by rw [getD_drop]; exact hQ.out _ (by omega))]; simp
  rw [e1, e2]; simp

/-- A product of a mix and a part fits by far. -/
theorem mixPart_bd {x a : Int} (hx : -1000000000 ≤ x ∧ x ≤ 1000000000) (h0 : 0 ≤ a) (h1 : a < 1000000) : -1000000000000000 ≤ x * a ∧ x * a ≤ 1000000000000000 := by
  have g1 : 0 ≤ (x + 1000000000) * a := Int.mul_nonneg (by omega) h0
  have g2 : 0 ≤ (1000000000 - x) * a := Int.mul_nonneg (by omega) h0
  constructor
  · grind
  · grind
theorem Mix.y0 {X Y N B x y n1 b1 n2 b2 : Int} (h : Mix X Y N B x y n1 b1 n2 b2) : 0 ≤ y := by
  have := h.c1; have := h.c2
  rcases h.sg with s | s <;> omega
theorem Mix.x0 {X Y N B x y n1 b1 n2 b2 : Int} (h : Mix X Y N B x y n1 b1 n2 b2) : 0 ≤ x := by
  have := h.a1; have := h.a2
  rcases h.sg with s | s <;> omega
end Go.Proofs.YtjgpjafndaikcaaDoor
