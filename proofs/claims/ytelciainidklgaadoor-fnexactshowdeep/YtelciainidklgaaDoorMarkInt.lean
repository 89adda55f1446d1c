/-
  Rows of Int that are answers: what the laws' own helpers over them say.
-/
import Derived.Test.YtelciainidklgaaDoorRecs2
import Derived.Test.YtelciainidklgaaDoorRecInt
namespace Go.Proofs.YtelciainidklgaaDoor
open Go.RowKit
set_option linter.unusedVariables false
/-- One that is marked. -/
def markInt (k : Int) : Int := k
set_option maxHeartbeats 1000000 in
set_option maxRecDepth 100000 in
theorem eqIntS_in (v1 v2 : Value) (l : List (Int)) (w : World) (hl : l.length ≤ 1048576) (h1 : InR w v1 intL 1 l) (h2 : InR w v2 intL 1 l) :
    Calls Tryd.prog 42 #[v1, v2] w fun e w' => e = .returned (.bool true) ∧ Below w.heap.size w w' := by
  obtain ⟨o1, cap1, rfl, h1⟩ := h1
  obtain ⟨o2, cap2, rfl, h2⟩ := h2
  rcases Classical.em (l = []) with rfl | hne
  · clear h1 h2
    go_enter Tryd.func42, Tryd.ntmps42
    go_wp2_with fail
    go_loopg [5] 0 (fun g i wr => i = .int .i64 0 ∧ wr = w)
    case atStart => exact ⟨rfl, rfl⟩
    case round =>
      obtain ⟨rfl, rfl⟩ := hrel
      go_wp2
      go_ret
      exact ⟨rfl, Below.refl _ _⟩
  obtain ⟨b1, rfl, hb1, h1⟩ := h1 hne
  obtain ⟨b2, rfl, hb2, h2⟩ := h2 hne
  have H1 := hideT' h1
  have H2 := hideT' h2
  clear h1 h2 hne
  go_enter Tryd.func42, Tryd.ntmps42
  go_wp2_with fail
  go_loopg [5] l.length (fun g i wr => ∃ k : Nat, g = l.length - k ∧ k ≤ l.length ∧ i = .int .i64 (k : Int) ∧ Below w.heap.size w wr)
  case atStart => exact ⟨0, rfl, by omega, rfl, Below.refl _ _⟩
  case round =>
    obtain ⟨k, hg, hk, rfl, hW⟩ := hrel
    by_cases hlt : (k : Int) < (l.length : Int)
    · have hk' : k < l.length := by omega
      obtain ⟨d, hd⟩ : ∃ d, d = l.getD k default := ⟨_, rfl⟩
      have HDM := hideT' hd
      have h1 := H1.out
      have h2 := H2.out
      clear hd
      have hcb : wr.cell? ⟨b1, k, none⟩ = some (.int .i64 d) := by
        have := (h1 k 0 (.int .i64 (l.getD k default)) hk' rfl)
        rw [Nat.mul_one, Nat.add_zero, ← HDM.out] at this
        exact (hW.cell (p := ⟨b1, k, none⟩) hb1).trans this
      have hcc : wr.cell? ⟨b2, k, none⟩ = some (.int .i64 d) := by
        have := (h2 k 0 (.int .i64 (l.getD k default)) hk' rfl)
        rw [Nat.mul_one, Nat.add_zero, ← HDM.out] at this
        exact (hW.cell (p := ⟨b2, k, none⟩) hb2).trans this
      clear h1 h2
      go_wp2_with fail
      go_region
      go_wp2
      go_roundg (l.length - (k + 1))
      case measure => omega
      case rel => exact ⟨k + 1, rfl, by omega, by go_num, hW.drew⟩
    · go_wp2
      go_ret
      exact ⟨rfl, hW⟩
end Go.Proofs.YtelciainidklgaaDoor
