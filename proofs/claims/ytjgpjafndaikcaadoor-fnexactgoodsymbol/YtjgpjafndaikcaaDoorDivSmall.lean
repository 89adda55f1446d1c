/-
  What divideSmall of impl's nats answers.
-/
import Derived.Test.YtjgpjafndaikcaaDoorDivMath
import Derived.Test.YtjgpjafndaikcaaDoorPlus
namespace Go.Proofs.YtjgpjafndaikcaaDoor
open Go.RowKit
set_option linter.unusedVariables false

set_option maxHeartbeats 1000000 in
set_option maxRecDepth 100000 in
theorem divideSmall_any {n k : Nat} {p : List Int} (D : Nat) (d : Int) (w : World) (hP : Rep n k p) (hk : k ≤ 204) (hD : d = (D : Int)) (hd0 : 0 < d) (hd1 : d < 1000000) :
    Calls Tryd.prog 49 #[.agg (natC k p), .int .i64 d] w fun e w' => ∃ (i : Nat) (r : List Int) (x : Int), e = .returned (.tuple #[.agg (natC i r), .int .i64 x]) ∧ x = ((n % D : Nat) : Int) ∧ Rep (n / D) i r ∧ Below w.heap.size w w' := by
  have hz := zero_nat.1
  have hp := hP.len
  have A := (NatAt.new w k p).old (.cells (natC 0 zP) 35)
  have C := NatAt.new (w.alloc (.cells (natC k p) 35)) 0 zP
  have hB : Below w.heap.size w ((w.alloc (.cells (natC k p) 35)).alloc (.cells (natC 0 zP) 35)) := ((Below.refl _ _).alloc (Nat.le_refl _) _).alloc (by simp) _
  simp only [World.size_alloc] at C
  have a0 := A.c0
  have HP : Hid (Rep n k p) := hP
  have HD : Hid (d = (D : Int)) := hD
  have HS : Hid (DivS p d k 0 p) := DivS.start hP hd0
  clear hP hD
  go_enter Tryd.func49, Tryd.ntmps49
  go_wp2
  go_loopg [7, 6] k (fun g i r wr => ∃ (q : List Int) (x : Int), g ≤ k ∧ i = .int .i64 ((g : Int) - 1) ∧ r = .int .i64 x ∧ Hid (DivS p d g x q) ∧ Hid (∀ i, k ≤ i → q.getD i 0 = 0) ∧ 0 ≤ x ∧ x < d ∧ q.length = 204 ∧ NatAt wr w.heap.size k q ∧ NatAt wr (w.heap.size + 1) 0 zP ∧ Below w.heap.size w wr)
  case atStart => exact ⟨p, 0, Nat.le_refl _, rfl, rfl, HS, HP.out.out, by omega, by omega, hp, A, C, hB⟩
  case round =>
    obtain ⟨q, x, hg, rfl, rfl, HX, HO, hx0, hx1, hq, hA, hC, hW⟩ := hrel
    clear A C hB a0
    cases gk with
    | zero =>
      have hE := HX.out.end HP.out HO.out D HD.out
      have HE := hide hE
      clear hE
      go_wp2_with fail
      refine (trim_any w.heap.size k q _ hq hk hA).mono ?_
      rintro e w2 ⟨rfl, hN2, hg2, hs2⟩
      have hC2 := hC.grown hg2 (by simp)
      have hW2 : Below w.heap.size w w2 := hW.grown hg2 (by have := hW.size; omega) (by intro k hk; cases hk; omega)
      clear hA hC hW hg2 hs2
      go_wp2_with (first | (refine load_nat rfl _ rfl w.heap.size rfl _ q hN2 hq ?_) | (refine store_nat rfl _ _ rfl rfl (w.heap.size + 1) _ q rfl rfl 0 zP hC2 zP_len hq ?_; intro w3 hN3 hg3 hs3))
      refine bodyPost_ret (v := .tuple #[.agg (natC (trimTo q k) q), .int .i64 x]) (res_nat_tmp Tryd.results49 _ _ (w.heap.size + 1) _ _ _ rfl rfl hN3 hq) rfl ⟨_, q, x, rfl, HE.out.1, HE.out.2, ?_⟩
      exact hW2.grown hg3 (by have := hW2.size; omega) (by intro k hk; cases hk; omega)
    | succ t =>
      have a1 := hA.cs t (by omega)
      have ht : (t : Int) < 204 := by omega
      have hfr := hA.fr (1 + t)
      obtain ⟨y, hy⟩ : ∃ y, y = q.getD t 0 := ⟨_, rfl⟩
      have hy0 : 0 ≤ y ∧ y < 1000000 := by rw [hy]; exact ⟨HX.out.lo t, HX.out.hi t⟩
      obtain ⟨hy0, hy1⟩ := hy0
      rw [← hy] at a1
      have HY : Hid (y = q.getD t 0) := hy
      clear hy
      go_wp2
      go_roundg t
      case measure => omega
      case rel =>
        have h := HX.out.step (by omega) hp
        rw [← HY.out] at h
        have hb := small_bd hx0 hx1 hy0 hy1
        refine ⟨q.set t ((x * 1000000 + y) / d), (x * 1000000 + y) % d, by omega, rfl, rfl, h, ?_, hb.2.2.1, hb.2.2.2, by simp [hq], hA.setS t _, ?_, ?_⟩
        · intro i hi
          rw [getD_set _ _ _ _ (by omega), if_neg (by omega)]; exact HO.out i hi
        · exact hC.grown (grownBy_set (r0 wr) _ _) (by simp)
        · exact hW.setCell (by simp) _
end Go.Proofs.YtjgpjafndaikcaaDoor
