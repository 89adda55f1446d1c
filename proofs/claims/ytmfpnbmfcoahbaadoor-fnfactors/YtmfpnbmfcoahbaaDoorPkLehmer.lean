/-
  The texts Lehmer, Combined, Radix, Compare, one behind the other.
-/
import Derived.Test.YtmfpnbmfcoahbaaDoorPkRead
import Derived.Deep.QuietTactic
import Derived.BigQuiet
import Derived.Test.YtmfpnbmfcoahbaaDoorPkGood

/-
  What lead, gcdOf, sureSteps of impl answer.
-/
namespace Go.Proofs.YtmfpnbmfcoahbaaDoor
open Go.RowKit
set_option linter.unusedVariables false

/-- A mix in memory. -/
def mixC (n1 b1 n2 b2 : Int) : Array Value := #[.int .i64 n1, .int .i64 b1, .int .i64 n2, .int .i64 b2]
theorem mixC_one (n1 b1 n2 b2 : Int) : (mixC n1 b1 n2 b2).all (·.oneCell') = true := by
  rw [Array.all_eq_true_iff_forall_mem]
  intro v hv
  simp [mixC] at hv
  rcases hv with rfl | rfl | rfl | rfl <;> rfl
end Go.Proofs.YtmfpnbmfcoahbaaDoor

/-
  What combined of impl's nats answers.
-/
namespace Go.Proofs.YtmfpnbmfcoahbaaDoor
open Go.RowKit
set_option linter.unusedVariables false

end Go.Proofs.YtmfpnbmfcoahbaaDoor

/-
  Digits of any radix: plain facts; what goodRadix, l1Radix, digitOf and l1Digit answer.
-/
namespace Go.Proofs.YtmfpnbmfcoahbaaDoor
open Go.RowKit
set_option linter.unusedVariables false

/-- The radixes. -/
def radOk (r : Int) : Bool := r == 2 || (r == 8 || (r == 10 || r == 16))
theorem radOk_iff (r : Int) : radOk r = true ↔ (r = 2 ∨ r = 8 ∨ r = 10 ∨ r = 16) := by
  unfold radOk; simp

/-- What a byte is worth as a digit; of others 16. -/
def dg (c : UInt8) : Nat := (digI (c.toNat : Int)).toNat
theorem dg_le (c : UInt8) : dg c ≤ 16 := by
  unfold dg digI; split; omega; split; omega; split; omega; omega
theorem digI_bd (n : Int) (h : 0 ≤ n) : 0 ≤ digI n ∧ digI n ≤ 16 := by
  unfold digI; split; omega; split; omega; split; omega; omega
theorem dg_cast (c : UInt8) : (dg c : Int) = digI (c.toNat : Int) := by
  unfold dg; have := digI_bd (c.toNat : Int) (by omega); omega

/-- What digits of a radix tell. -/
def rval (b : Nat) (l : List UInt8) : Nat := l.foldl (fun n c => b * n + dg c) 0
theorem rval_snoc (b : Nat) (l : List UInt8) (c : UInt8) : rval b (l ++ [c]) = b * rval b l + dg c := by
  unfold rval; rw [List.foldl_append]; rfl
/-- Digits of the radix alone. -/
def rdigs (b : Nat) (l : List UInt8) : Bool := l.all (fun c => decide (dg c < b))

theorem rval_mono (b : Nat) (hb : 1 ≤ b) (l m : List UInt8) : rval b l ≤ rval b (l ++ m) := by
  induction m generalizing l with
  | nil => simp
  | cons c m ih =>
    have e : l ++ c :: m = (l ++ [c]) ++ m := by simp
    rw [e]
    have h1 := ih (l ++ [c])
    have h2 := rval_snoc b l c
    have h3 := Nat.mul_le_mul_right (rval b l) hb
    omega

theorem digitOf_any (n : Int) (w : World) (h0 : 0 ≤ n) (h1 : n ≤ 255) :
    Calls Tryd.prog 56 #[.int .u8 n] w fun e w' => e = .returned (.int .i64 (digI n)) ∧ w' = w := by
  by_cases ha : 48 ≤ n ∧ n ≤ 57
  · obtain ⟨a1, a2⟩ := ha
    have e : digI n = n - 48 := by unfold digI; rw [if_pos ⟨a1, a2⟩]
    rw [e]
    exact digitOf_dig n w a1 a2
  by_cases hb : 97 ≤ n ∧ n ≤ 102
  · have e : digI n = n - 97 + 10 := by unfold digI; rw [if_neg ha, if_pos hb]; omega
    obtain ⟨b1, b2⟩ := hb
    rw [e]
    clear ha e
    go_enter Tryd.func56, Tryd.ntmps56
    go_wp2
    go_ret
    exact ⟨rfl, rfl⟩
  by_cases hc : 65 ≤ n ∧ n ≤ 70
  · have e : digI n = n - 65 + 10 := by unfold digI; rw [if_neg ha, if_neg hb, if_pos hc]; omega
    obtain ⟨c1, c2⟩ := hc
    rw [e]
    clear ha hb e
    go_enter Tryd.func56, Tryd.ntmps56
    go_wp2
    go_ret
    exact ⟨rfl, rfl⟩
  have e : digI n = 16 := by unfold digI; rw [if_neg ha, if_neg hb, if_neg hc]
  rw [e]
  have hd : n < 48 ∨ (57 < n ∧ n < 65) ∨ (70 < n ∧ n < 97) ∨ 102 < n := by omega
  clear ha hb hc e
  rcases hd with hd | ⟨hd, hd'⟩ | ⟨hd, hd'⟩ | hd
  all_goals
    go_enter Tryd.func56, Tryd.ntmps56
    go_wp2
    go_ret
    exact ⟨rfl, rfl⟩

/-- What l1Digit tells: -1 of what is none. -/
def dig1 (n r : Int) : Int := if digI n < r ∧ digI n < 16 then digI n else -1

theorem dig1_of (c : UInt8) (b : Nat) (hb : b ≤ 16) : (dg c < b → dig1 (c.toNat : Int) (b : Int) = (dg c : Int)) ∧ (¬ dg c < b → dig1 (c.toNat : Int) (b : Int) = -1) := by
  have h := dg_cast c
  constructor
  · intro hc; unfold dig1; rw [← h, if_pos (by omega)]
  · intro hc; unfold dig1; rw [← h, if_neg (by omega)]
end Go.Proofs.YtmfpnbmfcoahbaaDoor

/-
  What compare of impl's nats answers.
-/
namespace Go.Proofs.YtmfpnbmfcoahbaaDoor
open Go.RowKit
set_option linter.unusedVariables false

/-- The parts below j held against each other, the greatest first. -/
def cmpAt (p q : List Int) : Nat → Int
  | 0 => 0
  | j + 1 => if p.getD j 0 = q.getD j 0 then cmpAt p q j else cmpI (p.getD j 0) (q.getD j 0)

set_option maxHeartbeats 400000 in
theorem compare_ne (k m : Nat) (p q : List Int) (w : World) (hne : k ≠ m) :
    Calls Tryd.prog 32 #[.agg (natC k p), .agg (natC m q)] w fun e w' => e = .returned (.int .i64 (cmpI k m)) ∧ Below w.heap.size w w' := by
  have A := (NatAt.new w k p).old (.cells (natC m q) 46)
  have B := NatAt.new (w.alloc (.cells (natC k p) 46)) m q
  have a0 := A.c0
  have b0 := B.c0
  have hb : ((k : Int) != (m : Int)) = true := by simp; omega
  simp only [World.size_alloc] at b0
  clear A B
  go_enter Tryd.func32, Tryd.ntmps32
  go_wp2_with fail
  refine (cmpCompare_any _ _ _).mono ?_
  rintro e w' ⟨rfl, rfl⟩
  go_wp2
  go_ret
  exact ⟨rfl, ((Below.refl _ _).alloc (Nat.le_refl _) _).alloc (by simp) _⟩

set_option maxHeartbeats 800000 in
theorem compare_eq (k : Nat) (p q : List Int) (w : World) (hp : p.length = 204) (hq : q.length = 204) (hk : k ≤ 204) :
    Calls Tryd.prog 32 #[.agg (natC k p), .agg (natC k q)] w fun e w' => e = .returned (.int .i64 (cmpAt p q k)) ∧ Below w.heap.size w w' := by
  have A := (NatAt.new w k p).old (.cells (natC k q) 46)
  have B := NatAt.new (w.alloc (.cells (natC k p) 46)) k q
  have a0 := A.c0
  have b0 := B.c0
  have hN : Aside (NatAt ((w.alloc (.cells (natC k p) 46)).alloc (.cells (natC k q) 46)) w.heap.size k p ∧ NatAt ((w.alloc (.cells (natC k p) 46)).alloc (.cells (natC k q) 46)) (w.heap.size + 1) k q) := ⟨A, by simpa using B⟩
  have hB : Below w.heap.size w ((w.alloc (.cells (natC k p) 46)).alloc (.cells (natC k q) 46)) := ((Below.refl _ _).alloc (Nat.le_refl _) _).alloc (by simp) _
  simp only [World.size_alloc] at b0
  clear A B
  go_enter Tryd.func32, Tryd.ntmps32
  go_wp2
  go_loopg [5] k (fun g i wr => g ≤ k ∧ i = .int .i64 ((g : Int) - 1) ∧ NatAt wr w.heap.size k p ∧ NatAt wr (w.heap.size + 1) k q ∧ Aside (cmpAt p q g = cmpAt p q k) ∧ Below w.heap.size w wr)
  case atStart => exact ⟨Nat.le_refl _, rfl, hN.out.1, hN.out.2, rfl, hB⟩
  case round =>
    obtain ⟨hg, rfl, hA, hC, hT, hW⟩ := hrel
    clear hN hB a0 b0
    cases gk with
    | zero =>
      have hT' : Aside (cmpAt p q k = 0) := by unfold Aside; rw [← hT.out]; rfl
      go_wp2
      go_ret
      exact ⟨ret_int hT'.out.symm, hW⟩
    | succ j =>
      have a1 := hA.cs j (by omega)
      have b1 := hC.cs j (by omega)
      have hj1 : (j : Int) < 204 := by omega
      by_cases hz : p.getD j 0 = q.getD j 0
      · have hT' : Aside (cmpAt p q j = cmpAt p q k) := by
          unfold Aside; rw [← hT.out]; simp only [cmpAt, if_pos hz]
        have hz' : (p[j]?.getD 0 != q[j]?.getD 0) = false := by simpa using hz
        clear hz
        go_wp2_with fail
        go_quiet (fail)
        go_wp2
        go_roundg j
        case measure => omega
        case rel => exact ⟨by omega, rfl, hA, hC, hT', below_drewN hW _⟩
      · have hT' : Aside (cmpAt p q k = cmpI (p.getD j 0) (q.getD j 0)) := by
          unfold Aside; rw [← hT.out]; simp only [cmpAt, if_neg hz]
        have hz' : (p[j]?.getD 0 != q[j]?.getD 0) = true := by simpa using hz
        clear hz
        go_wp2_with fail
        go_quiet (fail)
        obtain ⟨w2, hw2⟩ : ∃ w2, w2 = wr.drewN nq := ⟨_, rfl⟩
        have a2 : w2.cell? ⟨w.heap.size, 1 + j, none⟩ = some (.int .i64 (p.getD j 0)) := by rw [hw2]; exact a1
        have b2 : w2.cell? ⟨w.heap.size + 1, 1 + j, none⟩ = some (.int .i64 (q.getD j 0)) := by rw [hw2]; exact b1
        have hW2 : Below w.heap.size w w2 := by rw [hw2]; exact below_drewN hW _
        rw [← hw2]
        clear hw2 a1 b1 hA hC hW
        go_wp2_with fail
        go_quiet ((go_at_call 68; exact Calls.quiet_of_same (cmpCompare_any _ _ _)))
        go_wp2
        go_ret
        exact ⟨ret_int (by rw [hT'.out]; simp), below_drewN hW2 _⟩
end Go.Proofs.YtmfpnbmfcoahbaaDoor
