/-
  What impl.readNats answers: two texts as parts.
-/
import Derived.Test.YtcdidibphaemoaaDoorRead
import Derived.Test.YtcdidibphaemoaaDoorHeld
namespace Go.Proofs.YtcdidibphaemoaaDoor
open Go.RowKit
set_option linter.unusedVariables false

theorem res_nat2_tmp {fn : Func} {x y u : Tmp} (h : fn.results = #[.cell x 36, .cell y 36, .tmp u]) (tmps : Array Value) (w : World) (b c : Nat) (n m : Int) (p q : List Int) (v : Value)
    (hx : tmps.getD x undef = .pointer (some ⟨b, 0, none⟩)) (hy : tmps.getD y undef = .pointer (some ⟨c, 0, none⟩)) (hv : tmps.getD u undef = v) (hN : NatAt w b n p) (hM : NatAt w c m q) (hl : p.length = 204) (hm : q.length = 204) :
    (results fn tmps).run Tryd.prog w = .ok (.tuple #[.agg (natC n p), .agg (natC m q), v]) w := by
  have e1 := run_loadVar_row w b 36 36 (natC n p) (0, 0) _ hN Tryd.underlying36 rfl (nat_info n p hl)
  have e2 := run_loadVar_row w c 36 36 (natC m q) (0, 0) _ hM Tryd.underlying36 rfl (nat_info m q hm)
  have hx' : tmps[x]?.getD undef = .pointer (some ⟨b, 0, none⟩) := by simpa using hx
  have hy' : tmps[y]?.getD undef = .pointer (some ⟨c, 0, none⟩) := by simpa using hy
  have hv' : tmps[u]?.getD undef = v := by simpa using hv
  simp [results, h, hx', hy', hv', asAddr, e1, e2]

set_option maxHeartbeats 1000000 in
set_option maxRecDepth 100000 in
theorem readNats_any (a b : ByteArray) (w : World) (hsa : a.size ≤ maxLen) (hsb : b.size ≤ maxLen) :
    Calls Tryd.prog 35 #[.string a, .string b] w fun e w' => ∃ (k m : Nat) (p q : List Int) (oa ob : Bool), e = .returned (.tuple #[.agg (natC k p), .agg (natC m q), .bool (oa && ob)]) ∧ Read a k p oa ∧ Read b m q ob ∧ Below w.heap.size w w' := by
  have hz := zero_nat.1
  have A := (NatAt.new w 0 zP).old (.cells (natC 0 zP) 36)
  have B := NatAt.new (w.alloc (.cells (natC 0 zP) 36)) 0 zP
  have hB : Below w.heap.size w ((w.alloc (.cells (natC 0 zP) 36)).alloc (.cells (natC 0 zP) 36)) := ((Below.refl _ _).alloc (Nat.le_refl _) _).alloc (by simp) _
  simp only [World.size_alloc] at B
  go_enter Tryd.func35, Tryd.ntmps35
  go_wp2_with fail
  refine (readNat_any a _ hsa).mono ?_
  rintro e w1 ⟨k, p, oa, rfl, hRa, hW1⟩
  have A1 := A.below hW1 (by simp; omega)
  have B1 := B.below hW1 (by simp)
  have hB1 : Below w.heap.size w w1 := hB.trans (hW1.mono (by simp; omega))
  have hs1 := hW1.size
  simp only [World.size_alloc] at hs1
  clear A B hB hW1
  have hp := hRa.len
  have C1 := NatAt.new w1 0 zP
  go_wp2_with (refine store_nat rfl _ _ rfl rfl w1.heap.size k p rfl rfl 0 zP C1 zP_len hp ?_; intro w2 hN2 hg2 hs2)
  refine (readNat_any b _ hsb).mono ?_
  rintro e w3 ⟨m, q, ob, rfl, hRb, hW3⟩
  have hs3 := hW3.size
  have hlt2 := hN2.lt
  have A3 := ((A1.old (.cells (natC 0 zP) 36)).grown hg2 (by simp; omega)).below hW3 (by rw [hs2]; simp; omega)
  have B3 := ((B1.old (.cells (natC 0 zP) 36)).grown hg2 (by simp; omega)).below hW3 (by rw [hs2]; simp; omega)
  have C3 := hN2.below hW3 hlt2
  have hB3 : Below w.heap.size w w3 := ((hB1.alloc (by omega) _).grown hg2 (by simp; omega) (by intro k hk; cases hk; omega)).trans (hW3.mono (by rw [hs2]; simp; omega))
  have hq := hRb.len
  rw [hs2] at hs3
  simp only [World.size_alloc] at hs3
  clear A1 B1 C1 hB1 hN2 hg2 hs2 hW3 hlt2
  have D3 := NatAt.new w3 0 zP
  go_wp2_with (refine store_nat rfl _ _ rfl rfl w3.heap.size m q rfl rfl 0 zP D3 zP_len hq ?_; intro w4 hN4 hg4 hs4)
  have hs4' : w4.heap.size = w3.heap.size + 1 := by rw [hs4]; simp
  have A4 := (A3.old (.cells (natC 0 zP) 36)).grown hg4 (by simp; omega)
  have B4 := (B3.old (.cells (natC 0 zP) 36)).grown hg4 (by simp; omega)
  have C4 := (C3.old (.cells (natC 0 zP) 36)).grown hg4 (by simp; omega)
  have hB4 : Below w.heap.size w w4 := (hB3.alloc (by omega) _).grown hg4 (by simp; omega) (by intro k hk; cases hk; omega)
  clear A3 B3 C3 D3 hB3 hg4 hs4
  clear hz
  cases oa with
  | true =>
    refine held_begin (fun w' => NatAt w' w1.heap.size k p ∧ NatAt w' w3.heap.size m q) (by kernel_rfl) ?_
    have hS : NatAt w4.drew w1.heap.size k p ∧ NatAt w4.drew w3.heap.size m q := ⟨C4, hN4⟩
    refine held_load 0 (some 21) rfl rfl (by kernel_rfl) (by kernel_rfl) (by kernel_rfl) noPanic_put rfl _ rfl w1.heap.size rfl k p (fun _ h => h.1) hp hS ?_
    simp only [Act.put, List.setIfInBounds_toArray, List.set_cons_zero, List.set_cons_succ]
    refine held_load 1 (some 22) rfl rfl (by kernel_rfl) (by kernel_rfl) (by kernel_rfl) noPanic_put rfl _ rfl w3.heap.size rfl m q (fun _ h => h.2) hq hS ?_
    simp only [Act.put, List.setIfInBounds_toArray, List.set_cons_zero, List.set_cons_succ]
    refine held_val 2 (some 23) rfl rfl (by kernel_rfl) (by kernel_rfl) (by kernel_rfl) noPanic_put rfl (.bool true) (fun _ => rfl) hS ?_
    simp only [Act.put, List.setIfInBounds_toArray, List.set_cons_zero, List.set_cons_succ]
    refine held_val 3 (some 24) rfl rfl (by kernel_rfl) (by kernel_rfl) (by kernel_rfl) noPanic_put rfl (.bool true) (fun _ => rfl) hS ?_
    simp only [Act.put, List.setIfInBounds_toArray, List.set_cons_zero, List.set_cons_succ]
    refine held_val 4 (some 25) rfl rfl (by kernel_rfl) (by kernel_rfl) (by kernel_rfl) noPanic_put rfl (.bool ob) (fun _ => rfl) hS ?_
    simp only [Act.put, List.setIfInBounds_toArray, List.set_cons_zero, List.set_cons_succ]
    refine held_val 5 (some 26) rfl rfl (by kernel_rfl) (by kernel_rfl) (by kernel_rfl) noPanic_put rfl (.bool ob) (fun _ => rfl) hS ?_
    simp only [Act.put, List.setIfInBounds_toArray, List.set_cons_zero, List.set_cons_succ]
    refine held_store 6 (by kernel_rfl) rfl rfl _ _ rfl rfl w.heap.size k p rfl rfl 0 zP A4 zP_len hp ?_
    intro w5 hN5 hg5 hs5
    refine ⟨⟨C4.grown (w := w4.drew) hg5 (by simp; omega), hN4.grown (w := w4.drew) hg5 (by simp; omega)⟩, ?_⟩
    refine held_store 7 (by kernel_rfl) rfl rfl _ _ rfl rfl (w.heap.size + 1) m q rfl rfl 0 zP (B4.grown (w := w4.drew) hg5 (by simp)) zP_len hq ?_
    intro w6 hN6 hg6 hs6
    have hC5 := C4.grown (w := w4.drew) hg5 (by simp; omega)
    have hD5 := hN4.grown (w := w4.drew) hg5 (by simp; omega)
    refine ⟨⟨hC5.grown hg6 (by simp; omega), hD5.grown hg6 (by simp; omega)⟩, ?_⟩
    refine held_assign 8 (some 6) (by kernel_rfl) rfl rfl _ rfl rfl (.bool ob) rfl ⟨hC5.grown hg6 (by simp; omega), hD5.grown hg6 (by simp; omega)⟩ ?_
    simp only [Act.put, List.setIfInBounds_toArray, List.set_cons_zero, List.set_cons_succ]
    refine wpAnyH_done (by kernel_rfl) ?_ _
    refine NoPanic.normal ?_
    go_wp2
    refine bodyPost_ret (v := .tuple #[.agg (natC k p), .agg (natC m q), .bool (true && ob)]) (res_nat2_tmp Tryd.results35 _ _ w.heap.size (w.heap.size + 1) _ _ _ _ _ rfl rfl rfl (hN5.grown hg6 (by simp)) hN6 hp hq) rfl ⟨k, m, p, q, true, ob, rfl, hRa, hRb, ?_⟩
    have hB5 : Below w.heap.size w w5 := hB4.drew.grown hg5 (by have := hB4.size; simp; omega) (by intro k hk; cases hk; omega)
    exact hB5.grown hg6 (by have := hB5.size; omega) (by intro k hk; cases hk; omega)
  | false =>
    refine held_begin (fun w' => NatAt w' w1.heap.size k p ∧ NatAt w' w3.heap.size m q) (by kernel_rfl) ?_
    have hS : NatAt w4.drew w1.heap.size k p ∧ NatAt w4.drew w3.heap.size m q := ⟨C4, hN4⟩
    refine held_load 0 (some 21) rfl rfl (by kernel_rfl) (by kernel_rfl) (by kernel_rfl) noPanic_put rfl _ rfl w1.heap.size rfl k p (fun _ h => h.1) hp hS ?_
    simp only [Act.put, List.setIfInBounds_toArray, List.set_cons_zero, List.set_cons_succ]
    refine held_load 1 (some 22) rfl rfl (by kernel_rfl) (by kernel_rfl) (by kernel_rfl) noPanic_put rfl _ rfl w3.heap.size rfl m q (fun _ h => h.2) hq hS ?_
    simp only [Act.put, List.setIfInBounds_toArray, List.set_cons_zero, List.set_cons_succ]
    refine held_val 2 (some 23) rfl rfl (by kernel_rfl) (by kernel_rfl) (by kernel_rfl) noPanic_put rfl (.bool false) (fun _ => rfl) hS ?_
    simp only [Act.put, List.setIfInBounds_toArray, List.set_cons_zero, List.set_cons_succ]
    refine held_val 3 (some 24) rfl rfl (by kernel_rfl) (by kernel_rfl) (by kernel_rfl) noPanic_put rfl (.bool false) (fun _ => rfl) hS ?_
    simp only [Act.put, List.setIfInBounds_toArray, List.set_cons_zero, List.set_cons_succ]
    refine held_skip 4 (some 25) rfl rfl (by kernel_rfl) (by kernel_rfl) (by kernel_rfl) noPanic_put rfl hS ?_
    simp only [Act.put, List.setIfInBounds_toArray, List.set_cons_zero, List.set_cons_succ]
    refine held_val 5 (some 26) rfl rfl (by kernel_rfl) (by kernel_rfl) (by kernel_rfl) noPanic_put rfl (.bool false) (fun _ => rfl) hS ?_
    simp only [Act.put, List.setIfInBounds_toArray, List.set_cons_zero, List.set_cons_succ]
    refine held_store 6 (by kernel_rfl) rfl rfl _ _ rfl rfl w.heap.size k p rfl rfl 0 zP A4 zP_len hp ?_
    intro w5 hN5 hg5 hs5
    refine ⟨⟨C4.grown (w := w4.drew) hg5 (by simp; omega), hN4.grown (w := w4.drew) hg5 (by simp; omega)⟩, ?_⟩
    refine held_store 7 (by kernel_rfl) rfl rfl _ _ rfl rfl (w.heap.size + 1) m q rfl rfl 0 zP (B4.grown (w := w4.drew) hg5 (by simp)) zP_len hq ?_
    intro w6 hN6 hg6 hs6
    have hC5 := C4.grown (w := w4.drew) hg5 (by simp; omega)
    have hD5 := hN4.grown (w := w4.drew) hg5 (by simp; omega)
    refine ⟨⟨hC5.grown hg6 (by simp; omega), hD5.grown hg6 (by simp; omega)⟩, ?_⟩
    refine held_assign 8 (some 6) (by kernel_rfl) rfl rfl _ rfl rfl (.bool false) rfl ⟨hC5.grown hg6 (by simp; omega), hD5.grown hg6 (by simp; omega)⟩ ?_
    simp only [Act.put, List.setIfInBounds_toArray, List.set_cons_zero, List.set_cons_succ]
    refine wpAnyH_done (by kernel_rfl) ?_ _
    refine NoPanic.normal ?_
    go_wp2
    refine bodyPost_ret (v := .tuple #[.agg (natC k p), .agg (natC m q), .bool (false && ob)]) (res_nat2_tmp Tryd.results35 _ _ w.heap.size (w.heap.size + 1) _ _ _ _ _ rfl rfl rfl (hN5.grown hg6 (by simp)) hN6 hp hq) rfl ⟨k, m, p, q, false, ob, rfl, hRa, hRb, ?_⟩
    have hB5 : Below w.heap.size w w5 := hB4.drew.grown hg5 (by have := hB4.size; simp; omega) (by intro k hk; cases hk; omega)
    exact hB5.grown hg6 (by have := hB5.size; omega) (by intro k hk; cases hk; omega)
end Go.Proofs.YtcdidibphaemoaaDoor
