/-
  The texts Lehmer, Combined, Radix, Compare, one behind the other.
-/
import Derived.Test.YtoiegaggekgmjaaDoorPkRead
import Derived.Deep.QuietTactic
import Derived.BigQuiet
import Derived.Test.YtoiegaggekgmjaaDoorPkGood

/-
  What lead, gcdOf, sureSteps of impl answer.
-/
namespace Go.Proofs.YtoiegaggekgmjaaDoor
open Go.RowKit
set_option linter.unusedVariables false

set_option maxHeartbeats 1000000 in
set_option maxRecDepth 100000 in
theorem lead_any {n k : Nat} {p : List Int} (T U : Nat) (w : World) (hP : Rep n k p) (hU : U = T + 3) (hT : U ≤ 204) :
    Calls Tryd.prog 29 #[.agg (natC k p), .int .i64 (U : Int)] w fun e w' =>
      e = .returned (.int .i64 ((p.getD (T + 2) 0 * 1000000 + p.getD (T + 1) 0) * 1000000 + p.getD T 0)) ∧ Below w.heap.size w w' := by
  have hp := hP.len
  have A := NatAt.new w k p
  have hB : Below w.heap.size w (w.alloc (.cells (natC k p) 33)) := (Below.refl _ _).alloc (Nat.le_refl _) _
  obtain ⟨T2, hT2⟩ : ∃ x, x = T + 2 := ⟨_, rfl⟩
  obtain ⟨T1, hT1⟩ : ∃ x, x = T + 1 := ⟨_, rfl⟩
  rw [← hT1, ← hT2]
  have a0 := A.cs T (by omega)
  have a1 := A.cs T1 (by omega)
  have a2 := A.cs T2 (by omega)
  obtain ⟨x0, hx0⟩ : ∃ x, x = p.getD T 0 := ⟨_, rfl⟩
  obtain ⟨x1, hx1⟩ : ∃ x, x = p.getD T1 0 := ⟨_, rfl⟩
  obtain ⟨x2, hx2⟩ : ∃ x, x = p.getD T2 0 := ⟨_, rfl⟩
  have g0 : 0 ≤ x0 ∧ x0 < 1000000 := by rw [hx0]; exact ⟨hP.lo _, hP.hi _⟩
  have g1 : 0 ≤ x1 ∧ x1 < 1000000 := by rw [hx1]; exact ⟨hP.lo _, hP.hi _⟩
  have g2 : 0 ≤ x2 ∧ x2 < 1000000 := by rw [hx2]; exact ⟨hP.lo _, hP.hi _⟩
  rw [← hx0] at a0
  rw [← hx1] at a1
  rw [← hx2] at a2
  rw [← hx0, ← hx1, ← hx2]
  obtain ⟨g00, g01⟩ := g0
  obtain ⟨g10, g11⟩ := g1
  obtain ⟨g20, g21⟩ := g2
  have hw1 : IntKind.i64.wrap ((U : Int) - 1) = (T2 : Int) := by rw [IntKind.wrap_i64]; omega
  have hw2 : IntKind.i64.wrap ((U : Int) - 2) = (T1 : Int) := by rw [IntKind.wrap_i64]; omega
  have hw3 : IntKind.i64.wrap ((U : Int) - 3) = (T : Int) := by rw [IntKind.wrap_i64]; omega
  have k0 : (T : Int) < 204 := by omega
  have k1 : (T1 : Int) < 204 := by omega
  have k2 : (T2 : Int) < 204 := by omega
  have hF : IntKind.i64.wrap (IntKind.i64.wrap (IntKind.i64.wrap (IntKind.i64.wrap (x2 * 1000000) + x1) * 1000000) + x0) = (x2 * 1000000 + x1) * 1000000 + x0 := by
    simp only [IntKind.wrap_i64]; omega
  have HF := hide hF
  clear hx0 hx1 hx2 hP A hT hU hT1 hT2 hp hF
  go_enter Tryd.func29, Tryd.ntmps29
  go_wp2_with fail
  generalize hWW : w.alloc (.cells (natC k p) 33) = W at a0 a1 a2 hB ⊢
  clear hWW
  refine wp_region_still_tail 19 (by kernel_rfl) (by kernel_rfl) ?_
  simp only [List.take_succ_cons, List.take_zero, List.drop_succ_cons, List.drop_zero]
  repeat (first | still_step | simp only [hw1, hw2, hw3])
  refine wpStill_nil ?_
  go_wp2_with fail
  go_ret
  exact ⟨by rw [HF.out]; rfl, hB.drew⟩

/-- A mix in memory. -/
def mixC (n1 b1 n2 b2 : Int) : Array Value := #[.int .i64 n1, .int .i64 b1, .int .i64 n2, .int .i64 b2]
theorem mixC_one (n1 b1 n2 b2 : Int) : (mixC n1 b1 n2 b2).all (·.oneCell') = true := by
  rw [Array.all_eq_true_iff_forall_mem]
  intro v hv
  simp [mixC] at hv
  rcases hv with rfl | rfl | rfl | rfl <;> rfl
end Go.Proofs.YtoiegaggekgmjaaDoor

/-
  What combined of impl's nats answers.
-/
namespace Go.Proofs.YtoiegaggekgmjaaDoor
open Go.RowKit
set_option linter.unusedVariables false

end Go.Proofs.YtoiegaggekgmjaaDoor

/-
  Digits of any radix: plain facts; what goodRadix, l1Radix, digitOf and l1Digit answer.
-/
namespace Go.Proofs.YtoiegaggekgmjaaDoor
open Go.RowKit
set_option linter.unusedVariables false

/-- The radixes. -/
def radOk (r : Int) : Bool := r == 2 || (r == 8 || (r == 10 || r == 16))
theorem radOk_iff (r : Int) : radOk r = true ↔ (r = 2 ∨ r = 8 ∨ r = 10 ∨ r = 16) := by
  unfold radOk; simp

/-- What a byte is worth as a digit; of others 16. -/
def dg (c : UInt8) : Nat := (digI (c.toNat : Int)).toNat
theorem dg_le (c : UInt8) : dg c ≤ 16 := by
  unfold dg digI; split; omega; split; omega; split; omega; omega
theorem digI_bd (n : Int) (h : 0 ≤ n) : 0 ≤ digI n ∧ digI n ≤ 16 := by
  unfold digI; split; omega; split; omega; split; omega; omega
theorem dg_cast (c : UInt8) : (dg c : Int) = digI (c.toNat : Int) := by
  unfold dg; have := digI_bd (c.toNat : Int) (by omega); omega

/-- What digits of a radix tell. -/
def rval (b : Nat) (l : List UInt8) : Nat := l.foldl (fun n c => b * n + dg c) 0
theorem rval_snoc (b : Nat) (l : List UInt8) (c : UInt8) : rval b (l ++ [c]) = b * rval b l + dg c := by
  unfold rval; rw [List.foldl_append]; rfl
/-- Digits of the radix alone. -/
def rdigs (b : Nat) (l : List UInt8) : Bool := l.all (fun c => decide (dg c < b))

theorem rval_mono (b : Nat) (hb : 1 ≤ b) (l m : List UInt8) : rval b l ≤ rval b (l ++ m) := by
  induction m generalizing l with
  | nil => simp
  | cons c m ih =>
    have e : l ++ c :: m = (l ++ [c]) ++ m := by simp
    rw [e]
    have h1 := ih (l ++ [c])
    have h2 := rval_snoc b l c
    have h3 := Nat.mul_le_mul_right (rval b l) hb
    omega

theorem digitOf_any (n : Int) (w : World) (h0 : 0 ≤ n) (h1 : n ≤ 255) :
    Calls Tryd.prog 42 #[.int .u8 n] w fun e w' => e = .returned (.int .i64 (digI n)) ∧ w' = w := by
  by_cases ha : 48 ≤ n ∧ n ≤ 57
  · obtain ⟨a1, a2⟩ := ha
    have e : digI n = n - 48 := by unfold digI; rw [if_pos ⟨a1, a2⟩]
    rw [e]
    exact digitOf_dig n w a1 a2
  by_cases hb : 97 ≤ n ∧ n ≤ 102
  · have e : digI n = n - 97 + 10 := by unfold digI; rw [if_neg ha, if_pos hb]; omega
    obtain ⟨b1, b2⟩ := hb
    rw [e]
    clear ha e
    go_enter Tryd.func42, Tryd.ntmps42
    go_wp2
    go_ret
    exact ⟨rfl, rfl⟩
  by_cases hc : 65 ≤ n ∧ n ≤ 70
  · have e : digI n = n - 65 + 10 := by unfold digI; rw [if_neg ha, if_neg hb, if_pos hc]; omega
    obtain ⟨c1, c2⟩ := hc
    rw [e]
    clear ha hb e
    go_enter Tryd.func42, Tryd.ntmps42
    go_wp2
    go_ret
    exact ⟨rfl, rfl⟩
  have e : digI n = 16 := by unfold digI; rw [if_neg ha, if_neg hb, if_neg hc]
  rw [e]
  have hd : n < 48 ∨ (57 < n ∧ n < 65) ∨ (70 < n ∧ n < 97) ∨ 102 < n := by omega
  clear ha hb hc e
  rcases hd with hd | ⟨hd, hd'⟩ | ⟨hd, hd'⟩ | hd
  all_goals
    go_enter Tryd.func42, Tryd.ntmps42
    go_wp2
    go_ret
    exact ⟨rfl, rfl⟩

/-- What l1Digit tells: -1 of what is none. -/
def dig1 (n r : Int) : Int := if digI n < r ∧ digI n < 16 then digI n else -1

theorem l1Digit_any (n r : Int) (w : World) (h0 : 0 ≤ n) (h1 : n ≤ 255) (hr : 2 ≤ r) (hr1 : r ≤ 16) :
    Calls Tryd.prog 31 #[.int .u8 n, .int .i64 r] w fun e w' => e = .returned (.int .i64 (dig1 n r)) ∧ w' = w := by
  by_cases ha : 48 ≤ n ∧ n ≤ 57
  · have e : digI n = n - 48 := by unfold digI; rw [if_pos ha]
    obtain ⟨a1, a2⟩ := ha
    by_cases hq : n - 48 < r
    · have e2 : dig1 n r = n - 48 := by unfold dig1; rw [e, if_pos ⟨hq, by omega⟩]
      rw [e2]
      clear e e2
      go_enter Tryd.func31, Tryd.ntmps31
      go_wp2
      go_ret
      exact ⟨rfl, rfl⟩
    · have e2 : dig1 n r = -1 := by unfold dig1; rw [e, if_neg (by omega)]
      rw [e2]
      clear e e2
      go_enter Tryd.func31, Tryd.ntmps31
      go_wp2
      go_ret
      exact ⟨rfl, rfl⟩
  by_cases hb : 97 ≤ n ∧ n ≤ 102
  · have e : digI n = n - 97 + 10 := by unfold digI; rw [if_neg ha, if_pos hb]; omega
    obtain ⟨b1, b2⟩ := hb
    by_cases hq : n - 97 + 10 < r
    · have e2 : dig1 n r = n - 97 + 10 := by unfold dig1; rw [e, if_pos ⟨hq, by omega⟩]
      rw [e2]
      clear e e2 ha
      go_enter Tryd.func31, Tryd.ntmps31
      go_wp2
      go_ret
      exact ⟨rfl, rfl⟩
    · have e2 : dig1 n r = -1 := by unfold dig1; rw [e, if_neg (by omega)]
      rw [e2]
      clear e e2 ha
      go_enter Tryd.func31, Tryd.ntmps31
      go_wp2
      go_ret
      exact ⟨rfl, rfl⟩
  by_cases hc : 65 ≤ n ∧ n ≤ 70
  · have e : digI n = n - 65 + 10 := by unfold digI; rw [if_neg ha, if_neg hb, if_pos hc]; omega
    obtain ⟨c1, c2⟩ := hc
    by_cases hq : n - 65 + 10 < r
    · have e2 : dig1 n r = n - 65 + 10 := by unfold dig1; rw [e, if_pos ⟨hq, by omega⟩]
      rw [e2]
      clear e e2 ha hb
      go_enter Tryd.func31, Tryd.ntmps31
      go_wp2
      go_ret
      exact ⟨rfl, rfl⟩
    · have e2 : dig1 n r = -1 := by unfold dig1; rw [e, if_neg (by omega)]
      rw [e2]
      clear e e2 ha hb
      go_enter Tryd.func31, Tryd.ntmps31
      go_wp2
      go_ret
      exact ⟨rfl, rfl⟩
  have e : digI n = 16 := by unfold digI; rw [if_neg ha, if_neg hb, if_neg hc]
  have e2 : dig1 n r = -1 := by unfold dig1; rw [e, if_neg (by omega)]
  rw [e2]
  have hd : n < 48 ∨ (57 < n ∧ n < 65) ∨ (70 < n ∧ n < 97) ∨ 102 < n := by omega
  clear ha hb hc e e2
  rcases hd with hd | ⟨hd, hd'⟩ | ⟨hd, hd'⟩ | hd
  all_goals
    go_enter Tryd.func31, Tryd.ntmps31
    go_wp2
    go_ret
    exact ⟨rfl, rfl⟩

theorem dig1_of (c : UInt8) (b : Nat) (hb : b ≤ 16) : (dg c < b → dig1 (c.toNat : Int) (b : Int) = (dg c : Int)) ∧ (¬ dg c < b → dig1 (c.toNat : Int) (b : Int) = -1) := by
  have h := dg_cast c
  constructor
  · intro hc; unfold dig1; rw [← h, if_pos (by omega)]
  · intro hc; unfold dig1; rw [← h, if_neg (by omega)]
end Go.Proofs.YtoiegaggekgmjaaDoor

/-
  What compare of impl's nats answers.
-/
namespace Go.Proofs.YtoiegaggekgmjaaDoor
open Go.RowKit
set_option linter.unusedVariables false

/-- The parts below j held against each other, the greatest first. -/
def cmpAt (p q : List Int) : Nat → Int
  | 0 => 0
  | j + 1 => if p.getD j 0 = q.getD j 0 then cmpAt p q j else cmpI (p.getD j 0) (q.getD j 0)

set_option maxHeartbeats 400000 in
theorem compare_ne (k m : Nat) (p q : List Int) (w : World) (hne : k ≠ m) :
    Calls Tryd.prog 28 #[.agg (natC k p), .agg (natC m q)] w fun e w' => e = .returned (.int .i64 (cmpI k m)) ∧ Below w.heap.size w w' := by
  have A := (NatAt.new w k p).old (.cells (natC m q) 33)
  have B := NatAt.new (w.alloc (.cells (natC k p) 33)) m q
  have a0 := A.c0
  have b0 := B.c0
  have hb : ((k : Int) != (m : Int)) = true := by simp; omega
  simp only [World.size_alloc] at b0
  clear A B
  go_enter Tryd.func28, Tryd.ntmps28
  go_wp2_with fail
  refine (cmpCompare_any _ _ _).mono ?_
  rintro e w' ⟨rfl, rfl⟩
  go_wp2
  go_ret
  exact ⟨rfl, ((Below.refl _ _).alloc (Nat.le_refl _) _).alloc (by simp) _⟩

set_option maxHeartbeats 800000 in
theorem compare_eq (k : Nat) (p q : List Int) (w : World) (hp : p.length = 204) (hq : q.length = 204) (hk : k ≤ 204) :
    Calls Tryd.prog 28 #[.agg (natC k p), .agg (natC k q)] w fun e w' => e = .returned (.int .i64 (cmpAt p q k)) ∧ Below w.heap.size w w' := by
  have A := (NatAt.new w k p).old (.cells (natC k q) 33)
  have B := NatAt.new (w.alloc (.cells (natC k p) 33)) k q
  have a0 := A.c0
  have b0 := B.c0
  have hN : Aside (NatAt ((w.alloc (.cells (natC k p) 33)).alloc (.cells (natC k q) 33)) w.heap.size k p ∧ NatAt ((w.alloc (.cells (natC k p) 33)).alloc (.cells (natC k q) 33)) (w.heap.size + 1) k q) := ⟨A, by simpa using B⟩
  have hB : Below w.heap.size w ((w.alloc (.cells (natC k p) 33)).alloc (.cells (natC k q) 33)) := ((Below.refl _ _).alloc (Nat.le_refl _) _).alloc (by simp) _
  simp only [World.size_alloc] at b0
  clear A B
  go_enter Tryd.func28, Tryd.ntmps28
  go_wp2
  go_loopg [5] k (fun g i wr => g ≤ k ∧ i = .int .i64 ((g : Int) - 1) ∧ NatAt wr w.heap.size k p ∧ NatAt wr (w.heap.size + 1) k q ∧ Aside (cmpAt p q g = cmpAt p q k) ∧ Below w.heap.size w wr)
  case atStart => exact ⟨Nat.le_refl _, rfl, hN.out.1, hN.out.2, rfl, hB⟩
  case round =>
    obtain ⟨hg, rfl, hA, hC, hT, hW⟩ := hrel
    clear hN hB a0 b0
    cases gk with
    | zero =>
      have hT' : Aside (cmpAt p q k = 0) := by unfold Aside; rw [← hT.out]; rfl
      go_wp2
      go_ret
      exact ⟨ret_int hT'.out.symm, hW⟩
    | succ j =>
      have a1 := hA.cs j (by omega)
      have b1 := hC.cs j (by omega)
      have hj1 : (j : Int) < 204 := by omega
      by_cases hz : p.getD j 0 = q.getD j 0
      · have hT' : Aside (cmpAt p q j = cmpAt p q k) := by
          unfold Aside; rw [← hT.out]; simp only [cmpAt, if_pos hz]
        have hz' : (p[j]?.getD 0 != q[j]?.getD 0) = false := by simpa using hz
        clear hz
        go_wp2_with fail
        go_quiet (fail)
        go_wp2
        go_roundg j
        case measure => omega
        case rel => exact ⟨by omega, rfl, hA, hC, hT', below_drewN hW _⟩
      · have hT' : Aside (cmpAt p q k = cmpI (p.getD j 0) (q.getD j 0)) := by
          unfold Aside; rw [← hT.out]; simp only [cmpAt, if_neg hz]
        have hz' : (p[j]?.getD 0 != q[j]?.getD 0) = true := by simpa using hz
        clear hz
        go_wp2_with fail
        go_quiet (fail)
        obtain ⟨w2, hw2⟩ : ∃ w2, w2 = wr.drewN nq := ⟨_, rfl⟩
        have a2 : w2.cell? ⟨w.heap.size, 1 + j, none⟩ = some (.int .i64 (p.getD j 0)) := by rw [hw2]; exact a1
        have b2 : w2.cell? ⟨w.heap.size + 1, 1 + j, none⟩ = some (.int .i64 (q.getD j 0)) := by rw [hw2]; exact b1
        have hW2 : Below w.heap.size w w2 := by rw [hw2]; exact below_drewN hW _
        rw [← hw2]
        clear hw2 a1 b1 hA hC hW
        go_wp2_with fail
        go_quiet ((go_at_call 51; exact Calls.quiet_of_same (cmpCompare_any _ _ _)))
        go_wp2
        go_ret
        exact ⟨ret_int (by rw [hT'.out]; simp), below_drewN hW2 _⟩
end Go.Proofs.YtoiegaggekgmjaaDoor
