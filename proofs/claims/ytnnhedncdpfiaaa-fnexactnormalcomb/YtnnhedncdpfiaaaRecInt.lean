/-
  Rows of Int: what the laws' own helpers over them answer.
-/
import Derived.Test.YtnnhedncdpfiaaaBaseHeld
import Derived.Test.YtnnhedncdpfiaaaRecs
namespace Go.Proofs.Ytnnhedncdpfiaaa
open Go.RowKit
set_option linter.unusedVariables false
/-- The cell of one. -/
def intL (x : Int) : List Value := [.int .i64 x]
theorem intL_len (x : Int) : (intL x).length = 1 := rfl
theorem intL_one (x : Int) : ∀ u ∈ intL x, u.oneCell' = true := by
  intro u hu
  simp [intL] at hu
  subst hu; rfl
theorem info_int : (Try.prog.info? 3).map (fun i => (i.zero, i.size, i.bytes)) = some (some (.int .i64 0), 1, 8) := by kernel_rfl
theorem make_int (n : Nat) (hn : n ≤ 1048576) (w : World) : (Instr.makeSlice 29 (.int .i64 (n : Int)) (.int .i64 (n : Int))).run Try.prog w = .ok (.slice (some ⟨w.heap.size, 0, none⟩) n n) (w.alloc (.cells ((List.replicate n (0 : Int)).flatMap intL).toArray 3)) := by
  obtain ⟨i, hi, hzz⟩ := Option.map_eq_some_iff.1 info_int
  simp only [Prod.mk.injEq] at hzz
  obtain ⟨hz, hs, hb⟩ := hzz
  have hr := run_make (P := Try.prog) w 29 3 i _ Try.underlying29 hi hz .i64 .i64 n n (by omega) (Int.le_refl _) (by rw [hb]; omega) (by omega)
  simp only [Int.toNat_natCast, hs] at hr
  rw [hr, ← made_rec intL 1 intL_len _ (0 : Int) (by rfl) n]
  rfl
theorem size_int : (Try.prog.info? 3).map (·.size) = some 1 := by kernel_rfl
set_option maxHeartbeats 1000000 in
set_option maxRecDepth 100000 in
theorem eqIntS_any (b c : Nat) (l : List (Int)) (w : World) (hl : l.length ≤ 1048576) (h1 : RecAt w b 3 intL l) (h2 : RecAt w c 3 intL l) :
    Calls Try.prog 18 #[slR b l, slR c l] w fun e w' => e = .returned (.bool true) ∧ Below w.heap.size w w' := by
  have H1 := hideT' h1
  have H2 := hideT' h2
  have hb := h1.lt
  have hc := h2.lt
  clear h1 h2
  go_enter Try.func18, Try.ntmps18
  go_wp2_with fail
  go_loopg [5] l.length (fun g i wr => ∃ k : Nat, g = l.length - k ∧ k ≤ l.length ∧ i = .int .i64 (k : Int) ∧ Below w.heap.size w wr)
  case atStart => exact ⟨0, rfl, by omega, rfl, Below.refl _ _⟩
  case round =>
    obtain ⟨k, hg, hk, rfl, hW⟩ := hrel
    by_cases hlt : (k : Int) < (l.length : Int)
    · have hk' : k < l.length := by omega
      obtain ⟨d, hd⟩ : ∃ d, d = l.getD k default := ⟨_, rfl⟩
      have HDM := hideT' hd
      clear hd
      have hcb : wr.cell? ⟨b, k, none⟩ = some (.int .i64 d) := by
        have := (H1.out.below hW hb).cell intL_len k 0 hk' (by decide)
        rw [← HDM.out] at this
        simpa [intL] using this
      have hcc : wr.cell? ⟨c, k, none⟩ = some (.int .i64 d) := by
        have := (H2.out.below hW hc).cell intL_len k 0 hk' (by decide)
        rw [← HDM.out] at this
        simpa [intL] using this
      go_wp2_with fail
      go_region
      go_wp2
      go_roundg (l.length - (k + 1))
      case measure => omega
      case rel => exact ⟨k + 1, rfl, by omega, by go_num, hW.drew⟩
    · go_wp2
      go_ret
      exact ⟨rfl, hW⟩
end Go.Proofs.Ytnnhedncdpfiaaa
