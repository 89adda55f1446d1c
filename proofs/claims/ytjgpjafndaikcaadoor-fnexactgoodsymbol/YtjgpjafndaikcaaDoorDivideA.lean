/-
  What divide of impl's nats answers, by a number of one part.
-/
import Derived.Test.YtjgpjafndaikcaaDoorDivSmall
import Derived.Test.YtjgpjafndaikcaaDoorNatOf
import Derived.Test.YtjgpjafndaikcaaDoorHeldCall
namespace Go.Proofs.YtjgpjafndaikcaaDoor
open Go.RowKit
set_option linter.unusedVariables false

set_option maxHeartbeats 1000000 in
set_option maxRecDepth 100000 in
theorem divide_one {n m k : Nat} {p q : List Int} (w : World) (hP : Rep n k p) (hQ : Rep m 1 q) :
    Calls Tryd.prog 31 #[.agg (natC k p), .agg (natC 1 q)] w fun e w' => ∃ (i j : Nat) (r s : List Int), e = .returned (.tuple #[.agg (natC i r), .agg (natC j s)]) ∧ Rep (n / m) i r ∧ Rep (n % m) j s ∧ Below w.heap.size w w' := by
  have hz := zero_nat.1
  have hp := hP.len
  have hq := hQ.len
  have hk := hP.le
  have A := (((NatAt.new w k p).old (.cells (natC 1 q) 35)).old (.cells (natC 0 zP) 35)).old (.cells (natC 0 zP) 35)
  have B := ((NatAt.new (w.alloc (.cells (natC k p) 35)) 1 q).old (.cells (natC 0 zP) 35)).old (.cells (natC 0 zP) 35)
  have C := (NatAt.new ((w.alloc (.cells (natC k p) 35)).alloc (.cells (natC 1 q) 35)) 0 zP).old (.cells (natC 0 zP) 35)
  have E := NatAt.new (((w.alloc (.cells (natC k p) 35)).alloc (.cells (natC 1 q) 35)).alloc (.cells (natC 0 zP) 35)) 0 zP
  have hB : Below w.heap.size w ((((w.alloc (.cells (natC k p) 35)).alloc (.cells (natC 1 q) 35)).alloc (.cells (natC 0 zP) 35)).alloc (.cells (natC 0 zP) 35)) := ((((Below.refl _ _).alloc (Nat.le_refl _) _).alloc (by simp) _).alloc (by simp; omega) _).alloc (by simp; omega) _
  simp only [World.size_alloc] at B C E
  have b0 := B.c0
  have b1 : (((((w.alloc (.cells (natC k p) 35)).alloc (.cells (natC 1 q) 35)).alloc (.cells (natC 0 zP) 35)).alloc (.cells (natC 0 zP) 35))).cell? ⟨w.heap.size + 1, 1, none⟩ = some (.int .i64 (q.getD 0 0)) := B.cs 0 (by omega)
  obtain ⟨d, hd⟩ : ∃ d, d = q.getD 0 0 := ⟨_, rfl⟩
  have hd0 : 0 < d := by
    have h1 := hQ.top (by omega)
    have h2 := hQ.lo 0
    simp only [Nat.sub_self] at h1
    omega
  have hd1 : d < 1000000 := by rw [hd]; exact hQ.hi 0
  have hdm : d = (m : Int) := by
    have h := hQ.val
    rw [← hQ.val, vb_split 1000000 q 1 (by omega), vb_zero _ (q.drop 1) (fun i => by rw [getD_drop]; exact hQ.out _ (by omega))]
    have : q.take 1 = [d] := by
      cases q with
      | nil => simp at hq
      | cons x q => simp at hd; simp [hd]
    rw [this]; simp [vb]
  rw [← hd] at b1
  have HP := hide hP
  have HM := hide hdm
  clear hP hQ hd hdm
  go_enter Tryd.func31, Tryd.ntmps31
  go_wp2_with (first | (refine load_nat rfl _ rfl w.heap.size rfl k p A hp ?_))
  refine (divideSmall_any m d _ HP.out hk HM.out hd0 hd1).mono ?_
  rintro e w1 ⟨i, r, x, rfl, hx, hR, hW1⟩
  have HR := hide hR
  have HX := hide hx
  have hr := hR.len
  have hxb : 0 ≤ x ∧ x < d := by rw [hx, HM.out]; have := Nat.mod_lt n (show 0 < m by have := HM.out; omega); omega
  obtain ⟨hx0, hx1⟩ := hxb
  have C1 := C.below hW1 (by simp)
  have E1 := E.below hW1 (by simp)
  have hB1 : Below w.heap.size w w1 := hB.trans (hW1.mono (by simp; omega))
  have hs1 := hW1.size
  simp only [World.size_alloc] at hs1
  clear hx hR A B C E hB hW1 b0 b1
  have F1 := NatAt.new w1 0 zP
  go_wp2_with (first | (refine store_nat rfl _ _ rfl rfl w1.heap.size i r rfl rfl 0 zP F1 zP_len hr ?_; intro w2 hN2 hg2 hs2) | (refine load_nat rfl _ rfl w1.heap.size rfl i r hN2 hr ?_))
  have hs2' : w2.heap.size = w1.heap.size + 1 := by rw [hs2]; simp
  have C2 := (C1.old (.cells (natC 0 zP) 35)).grown hg2 (by simp; omega)
  have E2 := (E1.old (.cells (natC 0 zP) 35)).grown hg2 (by simp; omega)
  have hB2 : Below w.heap.size w w2 := (hB1.alloc (by omega) _).grown hg2 (by simp; omega) (by intro k hk; cases hk; omega)
  clear C1 E1 F1 hB1 hg2 hs2
  refine held_begin (fun w' => NatAt w' w1.heap.size i r) (by kernel_rfl) ?_
  have hS : NatAt w2.drew w1.heap.size i r := hN2
  refine held_load 0 (some 24) rfl rfl (by kernel_rfl) (by kernel_rfl) (by kernel_rfl) noPanic_put rfl _ rfl w1.heap.size rfl i r (fun _ h => h) hr hS ?_
  simp only [Act.put, List.setIfInBounds_toArray, List.set_cons_zero, List.set_cons_succ]
  refine held_val 1 (some 25) rfl rfl (by kernel_rfl) (by kernel_rfl) (by kernel_rfl) noPanic_put rfl (.int .i64 x) (fun _ => rfl) hS ?_
  simp only [Act.put, List.setIfInBounds_toArray, List.set_cons_zero, List.set_cons_succ]
  refine held_call 2 (some 26) (by kernel_rfl) rfl rfl rfl 45 #[.int .i64 x] (by go_simp) _ (natOf_any (n % m) x w2.drew HX.out hx0 (by omega)) ?_
  rintro e w3 ⟨j, s, rfl, hR3, hW3⟩
  have hW3 : Below w2.heap.size w2 w3 := ⟨hW3.os, hW3.tape, hW3.output, hW3.size, hW3.block⟩
  have hs3 := hW3.size
  have hN3 : NatAt w3 w1.heap.size i r := hN2.below (w := w2) hW3 (by omega)
  have C3 : NatAt w3 (w.heap.size + 1 + 1) 0 zP := C2.below (w := w2) hW3 (by omega)
  have E3 : NatAt w3 (w.heap.size + 1 + 1 + 1) 0 zP := E2.below (w := w2) hW3 (by omega)
  have hB3 : Below w.heap.size w w3 := hB2.trans (hW3.mono (by have := hB2.size; omega))
  have hs := hR3.len
  refine ⟨_, rfl, hN3, ?_⟩
  simp only [Act.put, List.setIfInBounds_toArray, List.set_cons_zero, List.set_cons_succ]
  refine held_store 3 (by kernel_rfl) rfl rfl _ _ rfl rfl (w.heap.size + 1 + 1) i r rfl rfl 0 zP C3 zP_len hr ?_
  intro w5 hN5 hg5 hs5
  refine ⟨hN3.grown hg5 (by simp; omega), ?_⟩
  refine held_store 4 (by kernel_rfl) rfl rfl _ _ rfl rfl (w.heap.size + 1 + 1 + 1) j s rfl rfl 0 zP (E3.grown hg5 (by simp)) zP_len hs ?_
  intro w6 hN6 hg6 hs6
  refine ⟨(hN3.grown hg5 (by simp; omega)).grown hg6 (by simp; omega), ?_⟩
  refine wpAnyH_done (by kernel_rfl) ?_ _
  refine NoPanic.normal ?_
  go_wp2
  refine bodyPost_ret (v := .tuple #[.agg (natC i r), .agg (natC j s)]) (res_nat2 Tryd.results31 _ _ (w.heap.size + 1 + 1) (w.heap.size + 1 + 1 + 1) _ _ _ _ rfl rfl (hN5.grown hg6 (by simp)) hN6 hr hs) rfl ⟨i, j, r, s, rfl, HR.out, hR3, ?_⟩
  have hB5 : Below w.heap.size w w5 := hB3.grown hg5 (by have := hB3.size; omega) (by intro k hk; cases hk; omega)
  exact hB5.grown hg6 (by have := hB5.size; omega) (by intro k hk; cases hk; omega)
end Go.Proofs.YtjgpjafndaikcaaDoor
