/-
  The texts Lehmer, Combined, Radix, Compare, one behind the other.
-/
import Derived.Test.YtfdlncaplalenaaDoorPkRead
import Derived.Deep.QuietTactic
import Derived.BigQuiet
import Derived.Test.YtfdlncaplalenaaDoorPkGood

/-
  What lead, gcdOf, sureSteps of impl answer.
-/
namespace Go.Proofs.YtfdlncaplalenaaDoor
open Go.RowKit
set_option linter.unusedVariables false

/-- A mix in memory. -/
def mixC (n1 b1 n2 b2 : Int) : Array Value := #[.int .i64 n1, .int .i64 b1, .int .i64 n2, .int .i64 b2]
theorem mixC_one (n1 b1 n2 b2 : Int) : (mixC n1 b1 n2 b2).all (·.oneCell') = true := by
  rw [Array.all_eq_true_iff_forall_mem]
  intro v hv
  simp [mixC] at hv
  rcases hv with rfl | rfl | rfl | rfl <;> rfl
end Go.Proofs.YtfdlncaplalenaaDoor

/-
  What combined of impl's nats answers.
-/
namespace Go.Proofs.YtfdlncaplalenaaDoor
open Go.RowKit
set_option linter.unusedVariables false

end Go.Proofs.YtfdlncaplalenaaDoor

/-
  Digits of any radix: plain facts; what goodRadix, l1Radix, digitOf and l1Digit answer.
-/
namespace Go.Proofs.YtfdlncaplalenaaDoor
open Go.RowKit
set_option linter.unusedVariables false

/-- The radixes. -/
def radOk (r : Int) : Bool := r == 2 || (r == 8 || (r == 10 || r == 16))
theorem radOk_iff (r : Int) : radOk r = true ↔ (r = 2 ∨ r = 8 ∨ r = 10 ∨ r = 16) := by
  unfold radOk; simp

/-- What a byte is worth as a digit; of others 16. -/
def dg (c : UInt8) : Nat := (digI (c.toNat : Int)).toNat
theorem dg_le (c : UInt8) : dg c ≤ 16 := by
  unfold dg digI; split; omega; split; omega; split; omega; omega
theorem digI_bd (n : Int) (h : 0 ≤ n) : 0 ≤ digI n ∧ digI n ≤ 16 := by
  unfold digI; split; omega; split; omega; split; omega; omega
theorem dg_cast (c : UInt8) : (dg c : Int) = digI (c.toNat : Int) := by
  unfold dg; have := digI_bd (c.toNat : Int) (by omega); omega

/-- What digits of a radix tell. -/
def rval (b : Nat) (l : List UInt8) : Nat := l.foldl (fun n c => b * n + dg c) 0
theorem rval_snoc (b : Nat) (l : List UInt8) (c : UInt8) : rval b (l ++ [c]) = b * rval b l + dg c := by
  unfold rval; rw [List.foldl_append]; rfl
/-- Digits of the radix alone. -/
def rdigs (b : Nat) (l : List UInt8) : Bool := l.all (fun c => decide (dg c < b))

theorem rval_mono (b : Nat) (hb : 1 ≤ b) (l m : List UInt8) : rval b l ≤ rval b (l ++ m) := by
  induction m generalizing l with
  | nil => simp
  | cons c m ih =>
    have e : l ++ c :: m = (l ++ [c]) ++ m := by simp
    rw [e]
    have h1 := ih (l ++ [c])
    have h2 := rval_snoc b l c
    have h3 := Nat.mul_le_mul_right (rval b l) hb
    omega

theorem digitOf_any (n : Int) (w : World) (h0 : 0 ≤ n) (h1 : n ≤ 255) :
    Calls Tryd.prog 43 #[.int .u8 n] w fun e w' => e = .returned (.int .i64 (digI n)) ∧ w' = w := by
  by_cases ha : 48 ≤ n ∧ n ≤ 57
  · obtain ⟨a1, a2⟩ := ha
    have e : digI n = n - 48 := by unfold digI; rw [if_pos ⟨a1, a2⟩]
    rw [e]
    exact digitOf_dig n w a1 a2
  by_cases hb : 97 ≤ n ∧ n ≤ 102
  · have e : digI n = n - 97 + 10 := by unfold digI; rw [if_neg ha, if_pos hb]; omega
    obtain ⟨b1, b2⟩ := hb
    rw [e]
    clear ha e
    go_enter Tryd.func43, Tryd.ntmps43
    go_wp2
    go_ret
    exact ⟨rfl, rfl⟩
  by_cases hc : 65 ≤ n ∧ n ≤ 70
  · have e : digI n = n - 65 + 10 := by unfold digI; rw [if_neg ha, if_neg hb, if_pos hc]; omega
    obtain ⟨c1, c2⟩ := hc
    rw [e]
    clear ha hb e
    go_enter Tryd.func43, Tryd.ntmps43
    go_wp2
    go_ret
    exact ⟨rfl, rfl⟩
  have e : digI n = 16 := by unfold digI; rw [if_neg ha, if_neg hb, if_neg hc]
  rw [e]
  have hd : n < 48 ∨ (57 < n ∧ n < 65) ∨ (70 < n ∧ n < 97) ∨ 102 < n := by omega
  clear ha hb hc e
  rcases hd with hd | ⟨hd, hd'⟩ | ⟨hd, hd'⟩ | hd
  all_goals
    go_enter Tryd.func43, Tryd.ntmps43
    go_wp2
    go_ret
    exact ⟨rfl, rfl⟩

/-- What l1Digit tells: -1 of what is none. -/
def dig1 (n r : Int) : Int := if digI n < r ∧ digI n < 16 then digI n else -1

theorem dig1_of (c : UInt8) (b : Nat) (hb : b ≤ 16) : (dg c < b → dig1 (c.toNat : Int) (b : Int) = (dg c : Int)) ∧ (¬ dg c < b → dig1 (c.toNat : Int) (b : Int) = -1) := by
  have h := dg_cast c
  constructor
  · intro hc; unfold dig1; rw [← h, if_pos (by omega)]
  · intro hc; unfold dig1; rw [← h, if_neg (by omega)]
end Go.Proofs.YtfdlncaplalenaaDoor

/-
  What compare of impl's nats answers.
-/
namespace Go.Proofs.YtfdlncaplalenaaDoor
open Go.RowKit
set_option linter.unusedVariables false

/-- The parts below j held against each other, the greatest first. -/
def cmpAt (p q : List Int) : Nat → Int
  | 0 => 0
  | j + 1 => if p.getD j 0 = q.getD j 0 then cmpAt p q j else cmpI (p.getD j 0) (q.getD j 0)

end Go.Proofs.YtfdlncaplalenaaDoor
