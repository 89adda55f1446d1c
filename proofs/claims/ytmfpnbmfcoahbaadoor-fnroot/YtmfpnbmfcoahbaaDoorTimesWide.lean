/-
  What timesSmall of impl's nats answers, by up to 1000000.
-/
import Derived.Test.YtmfpnbmfcoahbaaDoorPkMinus
namespace Go.Proofs.YtmfpnbmfcoahbaaDoor
open Go.RowKit
set_option linter.unusedVariables false

set_option maxHeartbeats 1000000 in
set_option maxRecDepth 100000 in
theorem timesWide_any {n k : Nat} {p : List Int} (b a : Int) (w : World) (B' A' : Nat) (hP : Rep n k p) (hk : k ≤ 200) (hb : b = (B' : Int)) (ha : a = (A' : Int)) (hb0 : 0 < b) (hb1 : b ≤ 1000000) (ha0 : 0 ≤ a) (ha1 : a ≤ 16) :
    Calls Tryd.prog 84 #[.agg (natC k p), .int .i64 b, .int .i64 a] w fun e w' => ∃ (i : Nat) (r : List Int), e = .returned (.agg (natC i r)) ∧ Rep (B' * n + A') i r ∧ Below w.heap.size w w' := by
  have hz := zero_nat.1
  have hp := hP.len
  have A := (NatAt.new w k p).old (.cells (natC 0 zP) 46)
  have C := NatAt.new (w.alloc (.cells (natC k p) 46)) 0 zP
  have hB : Below w.heap.size w ((w.alloc (.cells (natC k p) 46)).alloc (.cells (natC 0 zP) 46)) := ((Below.refl _ _).alloc (Nat.le_refl _) _).alloc (by simp) _
  simp only [World.size_alloc] at C
  have a0 := A.c0
  have HP := hide hP
  have HBA := hide (And.intro hb ha)
  clear hP hb ha
  go_enter Tryd.func84, Tryd.ntmps84
  go_wp2
  go_loopg [10] k (fun g i wr => ∃ t : Nat, g = k - t ∧ t ≤ k ∧ i = .int .i64 (t : Int) ∧ NatAt wr w.heap.size k (subTo p p (-(b - 1)) 0 t) ∧ NatAt wr (w.heap.size + 1) 0 zP ∧ Below w.heap.size w wr)
  case atStart => exact ⟨0, rfl, by omega, rfl, A, C, hB⟩
  case round =>
    obtain ⟨t, rfl, ht, rfl, hA, hC, hW⟩ := hrel
    clear A C hB a0
    have hl : (subTo p p (-(b - 1)) 0 t).length = 204 := by rw [subTo_len]; exact hp
    by_cases hlt : (t : Int) < (k : Int)
    · have a1 := hA.cs t (by omega)
      have hfr := hA.fr (1 + t)
      have ht2 : (t : Int) < 204 := by omega
      obtain ⟨x, hx⟩ : ∃ x, x = (subTo p p (-(b - 1)) 0 t).getD t 0 := ⟨_, rfl⟩
      have hxp : x = p.getD t 0 := by rw [hx, subTo_get _ _ _ _ _ _ (by omega), if_neg (by omega)]
      obtain ⟨hx0, hx1⟩ : 0 ≤ x ∧ x < 1000000 := by rw [hxp]; exact ⟨HP.out.lo t, HP.out.hi t⟩
      rw [← hx] at a1
      have HX := hide (And.intro hx hxp)
      obtain ⟨z, hzz⟩ : ∃ z, x * b = z := ⟨_, rfl⟩
      have hz0 : 0 ≤ z := by rw [← hzz]; exact Int.mul_nonneg hx0 (by omega)
      have hz1 : z ≤ 1000000000000 := by
        rw [← hzz]
        have h1 : x * b ≤ 1000000 * b := Int.mul_le_mul_of_nonneg_right (by omega) (by omega)
        omega
      have hwz : IntKind.i64.wrap z = z := by rw [IntKind.wrap_i64]; omega
      clear hx hxp
      go_wp2
      go_roundg (k - (t + 1))
      case measure => omega
      case rel =>
        obtain ⟨hx, hxp⟩ := HX.out
        refine ⟨t + 1, rfl, by omega, by go_num, ?_, ?_, ?_⟩
        · show NatAt _ _ _ ((subTo p p (-(b - 1)) 0 t).set (0 + t) ((subTo p p (-(b - 1)) 0 t).getD (0 + t) 0 - -(b - 1) * p.getD t 0))
          rw [Nat.zero_add, ← hx, ← hxp, times_self, hzz]
          exact hA.setS t z
        · exact hC.grown (grownBy_set (r0 wr) _ _) (by simp)
        · exact hW.setCell (by simp) _
    · have htk : t = k := by omega
      subst htk
      have a0 := hA.c0
      have hfr := hA.fr 0
      have hfr1 := hA.fr 1
      have a1 : wr.cell? ⟨w.heap.size, 1, none⟩ = some (.int .i64 ((subTo p p (-(b - 1)) 0 t).getD 0 0)) := hA.cs 0 (by omega)
      have hget : Hid (∀ i, (subTo p p (-(b - 1)) 0 t).getD i 0 = p.getD i 0 * b) := fun i => by
        rw [subTo_get _ _ _ _ _ _ (by omega)]
        split
        · rw [Nat.sub_zero, times_self]
        · rename_i h
          rw [HP.out.out i (by omega)]; simp
      have hgb : Hid (∀ i, 0 ≤ p.getD i 0 * b ∧ p.getD i 0 * b ≤ 1000000000000) := fun i => by
        have h0 := HP.out.lo i; have h1 := HP.out.hi i
        have h2 : p.getD i 0 * b ≤ 1000000 * b := Int.mul_le_mul_of_nonneg_right (by omega) (by omega)
        exact ⟨Int.mul_nonneg h0 (by omega), by omega⟩
      obtain ⟨x, hx⟩ : ∃ x, x = (subTo p p (-(b - 1)) 0 t).getD 0 0 := ⟨_, rfl⟩
      rw [← hx] at a1
      obtain ⟨hx0, hx1⟩ : 0 ≤ x ∧ x ≤ 1000000000000 := by rw [hx, hget.out 0]; exact hgb.out 0
      have hA1 := hA.setS 0 (x + a)
      have a0' : (wr.setCell ⟨w.heap.size, 1, none⟩ (.int .i64 (x + a))).cell? ⟨w.heap.size, 0, none⟩ = some (.int .i64 (t : Int)) := hA1.c0
      have hfr' : (wr.setCell ⟨w.heap.size, 1, none⟩ (.int .i64 (x + a))).frozen? ⟨w.heap.size, 0, none⟩ = false := hA1.fr 0
      have hq : Hid (∀ i, ((subTo p p (-(b - 1)) 0 t).set 0 (x + a)).getD i 0 = if i = 0 then x + a else p.getD i 0 * b) := fun i => by
        rw [getD_set _ _ _ _ (by omega), hget.out i]
      have hval : Hid (vb 1000000 ((subTo p p (-(b - 1)) 0 t).set 0 (x + a)) = ((B' * n + A' : Nat) : Int)) := by
        unfold Hid
        rw [vb_set _ _ _ _ (by omega), ← hx, subTo_val _ _ _ _ _ _ (by omega) (by omega), vb_take_out _ _ _ (by omega) HP.out.out, HP.out.val]
        have e1 := HBA.out.1
        have e2 := HBA.out.2
        have e3 : (n : Int) - -(b - 1) * (1000000 ^ 0 * (n : Int)) = (n : Int) * b := by rw [Int.pow_zero, Int.one_mul]; exact times_self _ _
        rw [e3, e1, e2, Int.pow_zero, Int.one_mul]
        have : ((B' * n + A' : Nat) : Int) = (n : Int) * (B' : Int) + (A' : Int) := by rw [Int.natCast_add, Int.natCast_mul, Int.mul_comm]
        omega
      have hWs := hW.size
      have hbd : Hid (∀ i, -400000000000000 ≤ ((subTo p p (-(b - 1)) 0 t).set 0 (x + a)).getD i 0 ∧ ((subTo p p (-(b - 1)) 0 t).set 0 (x + a)).getD i 0 ≤ 400000000000000) := fun i => by
        rw [hq.out i]; have := hgb.out i; split <;> omega
      have hlen : ((subTo p p (-(b - 1)) 0 t).set 0 (x + a)).length = 204 := by rw [List.length_set]; exact hl
      have HX := hide hx
      clear hx
      by_cases ht1 : 1 ≤ (t : Int)
      · go_wp2_with fail
        have hA2 := hA1.set0 (t : Int)
        have hgr := grownBy_set (grownBy_set (r0 wr) (b := w.heap.size) 1 (.int .i64 (x + a))) 0 (.int .i64 (t : Int))
        have hC2 := hC.grown hgr (by simp)
        have hW2 : Below w.heap.size w ((wr.setCell ⟨w.heap.size, 1, none⟩ (.int .i64 (x + a))).setCell ⟨w.heap.size, 0, none⟩ (.int .i64 (t : Int))) := (hW.setCell (by simp) _).setCell (by simp) _
        have hs2 := hW2.size
        refine (carry_any w.heap.size t ((subTo p p (-(b - 1)) 0 t).set 0 (x + a)) _ hlen (by omega) hA2 hbd.out (fun i hi => by
          rw [hq.out i, if_neg (by omega), HP.out.out i (by omega)]; simp)).mono ?_
        rintro e w3 ⟨ok, i, r, rfl, hr, hN3, hg3, hs3, hcase⟩
        have hR : Rep (B' * n + A') i r := by
          rcases hcase with ⟨_, n', h1, h2⟩ | ⟨_, h1⟩
          · have : n' = B' * n + A' := by have := hval.out; omega
            rw [← this]; exact h2
          · have := hval.out; omega
        have hC3 := hC2.grown hg3 (by simp)
        have hW3 : Below w.heap.size w w3 := hW2.grown hg3 (by omega) (by intro k hk; cases hk; omega)
        have HR := hide hR
        clear hA hC hW hA1 a0 hfr hfr1 a1 a0' hfr' hA2 hgr hC2 hW2 hg3 hs3 hcase hR
        go_wp2_with (first | (refine load_nat rfl _ rfl w.heap.size rfl i r hN3 hr ?_) | (refine store_nat rfl _ _ rfl rfl (w.heap.size + 1) i r rfl rfl 0 zP hC3 zP_len hr ?_; intro w4 hN4 hg4 hs4))
        refine bodyPost_ret (v := .agg (natC i r)) (res_nat Tryd.results84 _ _ (w.heap.size + 1) _ _ rfl hN4 hr) rfl ⟨i, r, rfl, HR.out, ?_⟩
        exact hW3.grown hg4 (by have := hW3.size; omega) (by intro k hk; cases hk; omega)
      · go_wp2_with fail
        have hA2 := hA1.set0 1
        have hgr := grownBy_set (grownBy_set (r0 wr) (b := w.heap.size) 1 (.int .i64 (x + a))) 0 (.int .i64 1)
        have hC2 := hC.grown hgr (by simp)
        have hW2 : Below w.heap.size w ((wr.setCell ⟨w.heap.size, 1, none⟩ (.int .i64 (x + a))).setCell ⟨w.heap.size, 0, none⟩ (.int .i64 1)) := (hW.setCell (by simp) _).setCell (by simp) _
        have hs2 := hW2.size
        refine (carry_any w.heap.size 1 ((subTo p p (-(b - 1)) 0 t).set 0 (x + a)) _ hlen (by omega) hA2 hbd.out (fun i hi => by
          rw [hq.out i, if_neg (by omega), HP.out.out i (by omega)]; simp)).mono ?_
        rintro e w3 ⟨ok, i, r, rfl, hr, hN3, hg3, hs3, hcase⟩
        have hR : Rep (B' * n + A') i r := by
          rcases hcase with ⟨_, n', h1, h2⟩ | ⟨_, h1⟩
          · have : n' = B' * n + A' := by have := hval.out; omega
            rw [← this]; exact h2
          · have := hval.out; omega
        have hC3 := hC2.grown hg3 (by simp)
        have hW3 : Below w.heap.size w w3 := hW2.grown hg3 (by omega) (by intro k hk; cases hk; omega)
        have HR := hide hR
        clear hA hC hW hA1 a0 hfr hfr1 a1 a0' hfr' hA2 hgr hC2 hW2 hg3 hs3 hcase hR
        go_wp2_with (first | (refine load_nat rfl _ rfl w.heap.size rfl i r hN3 hr ?_) | (refine store_nat rfl _ _ rfl rfl (w.heap.size + 1) i r rfl rfl 0 zP hC3 zP_len hr ?_; intro w4 hN4 hg4 hs4))
        refine bodyPost_ret (v := .agg (natC i r)) (res_nat Tryd.results84 _ _ (w.heap.size + 1) _ _ rfl hN4 hr) rfl ⟨i, r, rfl, HR.out, ?_⟩
        exact hW3.grown hg4 (by have := hW3.size; omega) (by intro k hk; cases hk; omega)
end Go.Proofs.YtmfpnbmfcoahbaaDoor
