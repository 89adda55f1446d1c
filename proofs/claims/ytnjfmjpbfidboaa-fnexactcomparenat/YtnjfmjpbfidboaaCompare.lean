/-
  What compare of impl's nats answers.
-/
import Derived.Test.YtnjfmjpbfidboaaRead
import Derived.Test.YtnjfmjpbfidboaaCmpLib
namespace Go.Proofs.Ytnjfmjpbfidboaa
open Go.RowKit
set_option linter.unusedVariables false

/-- The parts below j held against each other, the greatest first. -/
def cmpAt (p q : List Int) : Nat → Int
  | 0 => 0
  | j + 1 => if p.getD j 0 = q.getD j 0 then cmpAt p q j else cmpI (p.getD j 0) (q.getD j 0)

set_option maxHeartbeats 400000 in
theorem compare_ne (k m : Nat) (p q : List Int) (w : World) (hne : k ≠ m) :
    Calls Try.prog 13 #[.agg (natC k p), .agg (natC m q)] w fun e w' => e = .returned (.int .i64 (cmpI k m)) ∧ Below w.heap.size w w' := by
  have A := (NatAt.new w k p).old (.cells (natC m q) 29)
  have B := NatAt.new (w.alloc (.cells (natC k p) 29)) m q
  have a0 := A.c0
  have b0 := B.c0
  have hb : ((k : Int) != (m : Int)) = true := by simp; omega
  simp only [World.size_alloc] at b0
  clear A B
  go_enter Try.func13, Try.ntmps13
  go_wp2_with fail
  refine (cmpCompare_any _ _ _).mono ?_
  rintro e w' ⟨rfl, rfl⟩
  go_wp2
  go_ret
  exact ⟨rfl, ((Below.refl _ _).alloc (Nat.le_refl _) _).alloc (by simp) _⟩

set_option maxHeartbeats 800000 in
theorem compare_eq (k : Nat) (p q : List Int) (w : World) (hp : p.length = 204) (hq : q.length = 204) (hk : k ≤ 204) :
    Calls Try.prog 13 #[.agg (natC k p), .agg (natC k q)] w fun e w' => e = .returned (.int .i64 (cmpAt p q k)) ∧ Below w.heap.size w w' := by
  have A := (NatAt.new w k p).old (.cells (natC k q) 29)
  have B := NatAt.new (w.alloc (.cells (natC k p) 29)) k q
  have a0 := A.c0
  have b0 := B.c0
  have hN : Aside (NatAt ((w.alloc (.cells (natC k p) 29)).alloc (.cells (natC k q) 29)) w.heap.size k p ∧ NatAt ((w.alloc (.cells (natC k p) 29)).alloc (.cells (natC k q) 29)) (w.heap.size + 1) k q) := ⟨A, by simpa using B⟩
  have hB : Below w.heap.size w ((w.alloc (.cells (natC k p) 29)).alloc (.cells (natC k q) 29)) := ((Below.refl _ _).alloc (Nat.le_refl _) _).alloc (by simp) _
  simp only [World.size_alloc] at b0
  clear A B
  go_enter Try.func13, Try.ntmps13
  go_wp2
  go_loopg [5] k (fun g i wr => g ≤ k ∧ i = .int .i64 ((g : Int) - 1) ∧ NatAt wr w.heap.size k p ∧ NatAt wr (w.heap.size + 1) k q ∧ Aside (cmpAt p q g = cmpAt p q k) ∧ Below w.heap.size w wr)
  case atStart => exact ⟨Nat.le_refl _, rfl, hN.out.1, hN.out.2, rfl, hB⟩
  case round =>
    obtain ⟨hg, rfl, hA, hC, hT, hW⟩ := hrel
    clear hN hB a0 b0
    cases gk with
    | zero =>
      have hT' : Aside (cmpAt p q k = 0) := by unfold Aside; rw [← hT.out]; rfl
      go_wp2
      go_ret
      exact ⟨ret_int hT'.out.symm, hW⟩
    | succ j =>
      have a1 := hA.cs j (by omega)
      have b1 := hC.cs j (by omega)
      have hj1 : (j : Int) < 204 := by omega
      by_cases hz : p.getD j 0 = q.getD j 0
      · have hT' : Aside (cmpAt p q j = cmpAt p q k) := by
          unfold Aside; rw [← hT.out]; simp only [cmpAt, if_pos hz]
        have hz' : (p[j]?.getD 0 != q[j]?.getD 0) = false := by simpa using hz
        clear hz
        go_wp2_with fail
        go_quiet (fail)
        go_wp2
        go_roundg j
        case measure => omega
        case rel => exact ⟨by omega, rfl, hA, hC, hT', below_drewN hW _⟩
      · have hT' : Aside (cmpAt p q k = cmpI (p.getD j 0) (q.getD j 0)) := by
          unfold Aside; rw [← hT.out]; simp only [cmpAt, if_neg hz]
        have hz' : (p[j]?.getD 0 != q[j]?.getD 0) = true := by simpa using hz
        clear hz
        go_wp2_with fail
        go_quiet (fail)
        obtain ⟨w2, hw2⟩ : ∃ w2, w2 = wr.drewN nq := ⟨_, rfl⟩
        have a2 : w2.cell? ⟨w.heap.size, 1 + j, none⟩ = some (.int .i64 (p.getD j 0)) := by rw [hw2]; exact a1
        have b2 : w2.cell? ⟨w.heap.size + 1, 1 + j, none⟩ = some (.int .i64 (q.getD j 0)) := by rw [hw2]; exact b1
        have hW2 : Below w.heap.size w w2 := by rw [hw2]; exact below_drewN hW _
        rw [← hw2]
        clear hw2 a1 b1 hA hC hW
        go_wp2_with fail
        go_quiet ((go_at_call 15; exact Calls.quiet_of_same (cmpCompare_any _ _ _)))
        go_wp2
        go_ret
        exact ⟨ret_int (by rw [hT'.out]; simp), below_drewN hW2 _⟩
end Go.Proofs.Ytnjfmjpbfidboaa
