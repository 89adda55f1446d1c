/-
  What the methods of impl's nodes answer, and what a tree of nodes is in memory.
-/
import Derived.Test.YtgolfbjfopoeeaaDoorTermMath
import Derived.Test.YtgolfbjfopoeeaaDoorRecTerm
namespace Go.Proofs.YtgolfbjfopoeeaaDoor
open Go.RowKit
set_option linter.unusedVariables false

def ndL (d : Nd) : List Value := [.int .i64 d.k, .int .i64 d.n, .int .i64 d.u]
theorem ndL_len (d : Nd) : (ndL d).length = 3 := rfl
/-- How many parts a node has. -/
def arN (d : Nd) : Int := if d.k = 1 ∧ 0 ≤ d.n ∧ d.n ≤ 99 then 0 else if d.k = 2 ∧ d.n = 0 then 1 else if d.k = 3 ∧ d.n = 0 then 2 else -1

theorem above_any (k n u : Int) (w : World) :
    Calls Tryd.prog 143 #[.agg #[.int .i64 k, .int .i64 n, .int .i64 u]] w fun e w' => e = .returned (.int .i64 u) ∧ w' = w.alloc (.cells #[.int .i64 k, .int .i64 n, .int .i64 u] 51) := by
  have hz := zero_term.1
  have hR := RowAt.new w 51 #[.int .i64 k, .int .i64 n, .int .i64 u]
  have c2 : (w.alloc (.cells #[.int .i64 k, .int .i64 n, .int .i64 u] 51)).cell? ⟨w.heap.size, 2, none⟩ = some (.int .i64 u) := by rw [cell_of_row _ _ _ _ _ _ hR]; rfl
  clear hR
  go_enter Tryd.func143, Tryd.ntmps143
  go_wp2
  go_ret
  exact ⟨rfl, rfl⟩
theorem limits_any (k n u : Int) (w : World) :
    Calls Tryd.prog 145 #[.agg #[.int .i64 k, .int .i64 n, .int .i64 u]] w fun e w' => e = .returned (.tuple #[.int .i64 150, .int .i64 40]) ∧ w' = w.alloc (.cells #[.int .i64 k, .int .i64 n, .int .i64 u] 51) := by
  have hz := zero_term.1
  go_enter Tryd.func145, Tryd.ntmps145
  go_wp2
  go_ret2
  exact ⟨rfl, rfl⟩
set_option maxHeartbeats 1000000 in
theorem arity_any (k n u : Int) (w : World) :
    Calls Tryd.prog 144 #[.agg #[.int .i64 k, .int .i64 n, .int .i64 u]] w fun e w' => e = .returned (.int .i64 (arN ⟨k, n, u⟩)) ∧ w' = w.alloc (.cells #[.int .i64 k, .int .i64 n, .int .i64 u] 51) := by
  have hz := zero_term.1
  have hR := RowAt.new w 51 #[.int .i64 k, .int .i64 n, .int .i64 u]
  have c0 : (w.alloc (.cells #[.int .i64 k, .int .i64 n, .int .i64 u] 51)).cell? ⟨w.heap.size, 0, none⟩ = some (.int .i64 k) := by rw [cell_of_row _ _ _ _ _ _ hR]; rfl
  have c1 : (w.alloc (.cells #[.int .i64 k, .int .i64 n, .int .i64 u] 51)).cell? ⟨w.heap.size, 1, none⟩ = some (.int .i64 n) := by rw [cell_of_row _ _ _ _ _ _ hR]; rfl
  clear hR
  obtain ⟨r, hr⟩ : ∃ r, r = arN ⟨k, n, u⟩ := ⟨_, rfl⟩
  rw [← hr]
  by_cases k1 : k = 1
  · subst k1
    by_cases h0 : 0 ≤ n
    · by_cases h9 : n ≤ 99
      · have HR : Hid (r = 0) := by unfold Hid; rw [hr]; simp [arN, h0, h9]
        clear hr
        go_enter Tryd.func144, Tryd.ntmps144
        go_wp2
        go_ret
        exact ⟨by rw [HR.out]; rfl, rfl⟩
      · have HR : Hid (r = -1) := by unfold Hid; rw [hr]; simp [arN, h0, h9]
        clear hr
        go_enter Tryd.func144, Tryd.ntmps144
        go_wp2
        go_ret
        exact ⟨by rw [HR.out]; rfl, rfl⟩
    · have HR : Hid (r = -1) := by unfold Hid; rw [hr]; simp [arN, h0]
      clear hr
      go_enter Tryd.func144, Tryd.ntmps144
      go_wp2
      go_ret
      exact ⟨by rw [HR.out]; rfl, rfl⟩
  · have k1b : (k == 1) = false := by simp [k1]
    by_cases k2 : k = 2
    · subst k2
      by_cases h0 : n = 0
      · have HR : Hid (r = 1) := by unfold Hid; rw [hr]; simp [arN, h0]
        subst h0
        clear hr
        go_enter Tryd.func144, Tryd.ntmps144
        go_wp2
        go_ret
        exact ⟨by rw [HR.out]; rfl, rfl⟩
      · have HR : Hid (r = -1) := by unfold Hid; rw [hr]; simp [arN, h0]
        have h0b : (n == 0) = false := by simp [h0]
        clear hr
        go_enter Tryd.func144, Tryd.ntmps144
        go_wp2
        go_ret
        exact ⟨by rw [HR.out]; rfl, rfl⟩
    · have k2b : (k == 2) = false := by simp [k2]
      by_cases k3 : k = 3
      · subst k3
        by_cases h0 : n = 0
        · have HR : Hid (r = 2) := by unfold Hid; rw [hr]; simp [arN, h0]
          subst h0
          clear hr
          go_enter Tryd.func144, Tryd.ntmps144
          go_wp2
          go_ret
          exact ⟨by rw [HR.out]; rfl, rfl⟩
        · have HR : Hid (r = -1) := by unfold Hid; rw [hr]; simp [arN, h0]
          have h0b : (n == 0) = false := by simp [h0]
          clear hr
          go_enter Tryd.func144, Tryd.ntmps144
          go_wp2
          go_ret
          exact ⟨by rw [HR.out]; rfl, rfl⟩
      · have k3b : (k == 3) = false := by simp [k3]
        have HR : Hid (r = -1) := by unfold Hid; rw [hr]; simp [arN, k1, k2, k3]
        clear hr
        go_enter Tryd.func144, Tryd.ntmps144
        go_wp2
        go_ret
        exact ⟨by rw [HR.out]; rfl, rfl⟩
end Go.Proofs.YtgolfbjfopoeeaaDoor
