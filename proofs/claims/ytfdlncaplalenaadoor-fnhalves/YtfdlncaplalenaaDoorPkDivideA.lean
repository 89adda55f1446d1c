/-
  The texts DivideA, DivideB, ImplGcd, IsOneNat, one behind the other.
-/
import Derived.Test.YtfdlncaplalenaaDoorPkRead
import Derived.Test.YtfdlncaplalenaaDoorPkMinus
import Derived.Test.YtfdlncaplalenaaDoorPkHeld
import Derived.Test.YtfdlncaplalenaaDoorPkLehmer
import Derived.Test.YtfdlncaplalenaaDoorWhole

/-
  What divide of impl's nats answers, by a number of one part.
-/
namespace Go.Proofs.YtfdlncaplalenaaDoor
open Go.RowKit
set_option linter.unusedVariables false

end Go.Proofs.YtfdlncaplalenaaDoor

/-
  What divide of impl's nats answers, by a number of two parts or more.
-/
namespace Go.Proofs.YtfdlncaplalenaaDoor
open Go.RowKit
set_option linter.unusedVariables false

/-- What holds at every jump back: many is not too small. -/
def DivAt (w : World) (m k j t c kc u : Nat) (p q pc Q : List Int) (a' : Act) (w' : World) : Prop :=
  ∃ (x : Int) (u11 u12 u32 u33 u34 u35 u36 u37 u38 u39 u40 u41 u42 u43 u44 u45 u46 u47 u48 u49 u50 u51 u52 u53 u54 u55 u56 u57 u58 u59 u60 u61 u62 : Value), a' = { tmps := #[.agg (natC k p), .agg (natC j q), .pointer (some ⟨w.heap.size, 0, none⟩), .pointer (some ⟨w.heap.size + 1, 0, none⟩), .pointer (some ⟨w.heap.size + 1 + 1, 0, none⟩), .pointer (some ⟨w.heap.size + 1 + 1 + 1, 0, none⟩), undef, undef, .pointer (some ⟨w.heap.size + 1 + 1 + 1 + 1, 0, none⟩), .int .i64 (t : Int), .int .i64 x, u11, u12, .pointer (some ⟨w.heap.size + 1, 0, none⟩), .int .i64 (j : Int), .bool false, undef, undef, undef, undef, undef, undef, undef, undef, undef, undef, undef, .pointer (some ⟨w.heap.size, 0, none⟩), .int .i64 (k : Int), .pointer (some ⟨w.heap.size + 1, 0, none⟩), .int .i64 (j : Int), .int .i64 ((k : Int) - (j : Int)), u32, u33, u34, u35, u36, u37, u38, u39, u40, u41, u42, u43, u44, u45, u46, u47, u48, u49, u50, u51, u52, u53, u54, u55, u56, u57, u58, u59, u60, u61, u62, undef, undef, undef], defers := [] } ∧ 0 ≤ x ∧ x ≤ 2000000 ∧ Hid ((c : Int) < (x + 1) * (1000000 ^ t * (m : Int))) ∧
    NatAt w' w.heap.size kc pc ∧ NatAt w' (w.heap.size + 1) j q ∧ NatAt w' (w.heap.size + 1 + 1) 0 zP ∧ NatAt w' (w.heap.size + 1 + 1 + 1) 0 zP ∧ NatAt w' (w.heap.size + 1 + 1 + 1 + 1) u Q ∧ Below w.heap.size w w'

theorem Rep.cnt_le {n k m j : Nat} {p q : List Int} (h : Rep n k p) (g : Rep m j q) (hle : n ≤ m) : k ≤ j := by
  by_cases e : k ≤ j
  · exact e
  · have := g.cnt_lt h (by omega); omega

end Go.Proofs.YtfdlncaplalenaaDoor

/-
  What gcd of impl's nats and impl.GcdNat answer.
-/
namespace Go.Proofs.YtfdlncaplalenaaDoor
open Go.RowKit
set_option linter.unusedVariables false

theorem Rep.zero_iff {n k : Nat} {p : List Int} (h : Rep n k p) : k = 0 ↔ n = 0 := by
  constructor
  · intro e
    have h1 := h.lt
    subst e
    simp at h1; omega
  · intro e
    subst e
    by_cases hk : k = 0
    · exact hk
    · have h1 := h.ge (by omega)
      have : (0 : Int) < 1000000 ^ (k - 1) := Int.pow_pos (by omega)
      omega

/-- A nat is read whole, as an operation. -/
theorem run_nat0 {a : Act} {o : Oper} {w : World} (x : Operand) (ho : o.op = .load 41 x) (b : Nat) (hx : a.eval x = .pointer (some ⟨b, 0, none⟩)) (u : Int) (p : List Int) (hl : p.length = 204) (hN : NatAt w b u p) :
    (execOp a.eval o).run Tryd.prog w = .ok (.value (.agg (natC u p))) w := by
  unfold execOp
  simp only [ho, hx, Instr.loadAt, Instr.sureAddr, Sem.run_bind, Sem.run_pure, Result.andThen_ok, run_loadVar_row w b 41 41 (natC u p) (0, 0) _ hN Tryd.underlying41 rfl (nat_info u p hl)]

end Go.Proofs.YtfdlncaplalenaaDoor

/-
  What isOne of impl's nats answers.
-/
namespace Go.Proofs.YtfdlncaplalenaaDoor
open Go.RowKit
set_option linter.unusedVariables false

theorem Rep.one_iff {n k : Nat} {p : List Int} (h : Rep n k p) : (k = 1 ∧ p.getD 0 0 = 1) ↔ n = 1 := by
  have hp := h.len
  constructor
  · rintro ⟨rfl, h1⟩
    have hv := h.val
    rw [vb_split 1000000 p 1 (by omega), vb_zero _ (p.drop 1) (fun i => by rw [getD_drop]; exact h.out _ (by omega))] at hv
    have : p.take 1 = [1] := by
      cases p with
      | nil => simp at hp
      | cons x p => simp at h1; simp [h1]
    rw [this] at hv; simp [vb] at hv; omega
  · rintro rfl
    have hk : k = 1 := by
      have h0 : k ≠ 0 := fun e => by have := h.zero_iff.1 e; omega
      by_cases e : k = 1
      · exact e
      · have h2 := h.ge (by omega)
        have h3 : (1000000 : Int) ^ 1 ≤ 1000000 ^ (k - 1) := ipow_le (by omega)
        simp at h3; omega
    subst hk
    refine ⟨rfl, ?_⟩
    have hv := h.val
    rw [vb_split 1000000 p 1 (by omega), vb_zero _ (p.drop 1) (fun i => by rw [getD_drop]; exact h.out _ (by omega))] at hv
    have : p.take 1 = [p.getD 0 0] := by
      cases p with
      | nil => simp at hp
      | cons x p => simp
    rw [this] at hv; simp [vb] at hv
    simpa using hv

end Go.Proofs.YtfdlncaplalenaaDoor
