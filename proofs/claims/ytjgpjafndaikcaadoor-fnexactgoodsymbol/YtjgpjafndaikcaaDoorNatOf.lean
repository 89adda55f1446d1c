/-
  What natOf of impl answers: a nat of an int that is not below 0.
-/
import Derived.Test.YtjgpjafndaikcaaDoorMinus
namespace Go.Proofs.YtjgpjafndaikcaaDoor
open Go.RowKit
set_option linter.unusedVariables false

theorem built_nat1 : Tryd.prog.built 35 [(0, .int .i64 1)] = some (natC 1 zP) := by kernel_rfl

theorem set_zP (s : Int) (i : Nat) : (zP.set 0 s).getD i 0 = if i = 0 then s else 0 := by
  rw [getD_set _ _ _ _ (by rw [zP_len]; decide), zP_get]

set_option maxHeartbeats 1000000 in
set_option maxRecDepth 100000 in
theorem natOf_big (S : Nat) (s : Int) (w : World) (hS : s = (S : Int)) (hs0 : 0 ≤ s) (hs1 : s ≤ 999999999999999999) :
    Calls Tryd.prog 45 #[.int .i64 s] w fun e w' => ∃ (i : Nat) (r : List Int), e = .returned (.agg (natC i r)) ∧ Rep S i r ∧ Below w.heap.size w w' := by
  have hz := zero_nat.1
  have HS := hide hS
  clear hS
  have A := (NatAt.new w 0 zP).old (.cells (natC 0 zP) 35)
  have B := NatAt.new (w.alloc (.cells (natC 0 zP) 35)) 0 zP
  have hB : Below w.heap.size w ((w.alloc (.cells (natC 0 zP) 35)).alloc (.cells (natC 0 zP) 35)) := ((Below.refl _ _).alloc (Nat.le_refl _) _).alloc (by simp) _
  simp only [World.size_alloc] at B
  go_enter Tryd.func45, Tryd.ntmps45
  go_wp2_with (first | (refine Great.wpList_buildTo rfl 35 #[(0, .const (.int .i64 1))] rfl _ rfl (natC 1 zP) built_nat1 ?_) | (refine store_nat rfl _ _ rfl rfl (w.heap.size + 1) 1 zP rfl rfl 0 zP B zP_len zP_len ?_; intro w2 hN2 hg2 hs2; have hfr := hN2.fr 1; have c1 : w2.cell? ⟨w.heap.size + 1, 1, none⟩ = some (.int .i64 (zP.getD 0 0)) := hN2.cs 0 (by rw [zP_len]; decide)))
  have hN3 := hN2.setS 0 s
  have A3 := (A.grown hg2 (by simp)).grown (grownBy_set (r0 w2) (b := w.heap.size + 1) (1 + 0) (.int .i64 s)) (by simp)
  have hB3 : Below w.heap.size w (w2.setCell ⟨w.heap.size + 1, 1 + 0, none⟩ (.int .i64 s)) := (hB.grown hg2 (by simp; omega) (by intro k hk; cases hk; omega)).setCell (by simp) _
  refine (carry_big (w.heap.size + 1) 1 (zP.set 0 s) _ (by simp [zP_len]) (by decide) hN3 (fun i => by rw [set_zP]; split <;> (refine ⟨by omega, by omega, fun h => by omega⟩)) (fun i hi => by rw [set_zP, if_neg (by omega)])).mono ?_
  rintro e w4 ⟨ok, i, r, rfl, hr, hN4, hg4, hs4, hcase⟩
  have hv : vb 1000000 (zP.set 0 s) = s := by
    rw [vb_set _ _ _ _ (by rw [zP_len]; decide), vb_zero _ _ zP_get, zP_get]; simp
  have hR : Rep S i r := by
    rw [hv] at hcase
    have := HS.out
    rcases hcase with ⟨_, x, h1, h2⟩ | ⟨_, h⟩
    · have : x = S := by omega
      rw [← this]; exact h2
    · omega
  have HR := hide hR
  have A4 := A3.grown hg4 (by simp)
  have hs3 := hB3.size
  have hB4 : Below w.heap.size w w4 := hB3.grown hg4 (by omega) (by intro k hk; cases hk; omega)
  clear hR hcase hv A B hB hN2 hg2 hs2 hfr c1 hN3 A3 hB3 hg4 hs4
  go_wp2_with (first | (refine load_nat rfl _ rfl (w.heap.size + 1) rfl i r hN4 hr ?_) | (refine store_nat rfl _ _ rfl rfl w.heap.size i r rfl rfl 0 zP A4 zP_len hr ?_; intro w5 hN5 hg5 hs5))
  refine bodyPost_ret (v := .agg (natC i r)) (res_nat Tryd.results45 _ _ w.heap.size _ _ rfl hN5 hr) rfl ⟨i, r, rfl, HR.out, ?_⟩
  exact hB4.grown hg5 (by have := hB4.size; omega) (by intro k hk; cases hk; omega)

theorem natOf_any (S : Nat) (s : Int) (w : World) (hS : s = (S : Int)) (hs0 : 0 ≤ s) (hs1 : s ≤ 400000000000000) :
    Calls Tryd.prog 45 #[.int .i64 s] w fun e w' => ∃ (i : Nat) (r : List Int), e = .returned (.agg (natC i r)) ∧ Rep S i r ∧ Below w.heap.size w w' :=
  natOf_big S s w hS hs0 (by omega)
end Go.Proofs.YtjgpjafndaikcaaDoor
