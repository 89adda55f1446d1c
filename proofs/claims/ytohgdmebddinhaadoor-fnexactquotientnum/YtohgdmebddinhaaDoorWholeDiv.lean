/-
  What divide of impl's whole numbers answers: written by gen/wholediv.py.
-/
import Derived.Test.YtohgdmebddinhaaDoorPkNumTimes
namespace Go.Proofs.YtohgdmebddinhaaDoor
open Go.RowKit
set_option linter.unusedVariables false

theorem run_row_whole {o : Oper} {a : Act} {w : World} (x : Operand) (ho : o.op = .load 32 x) (b : Nat) (hx : a.eval x = .pointer (some ⟨b, 0, none⟩)) (g : Bool) (u : Int) (p : List Int) (hN : WholeAt w b g u p) (hl : p.length = 204) :
    (execOp a.eval o).run Tryd.prog w = .ok (.value (.agg (wholeC g u p))) w := by
  unfold execOp
  simp only [ho, hx, Instr.loadAt, Instr.sureAddr, Sem.run_bind, Sem.run_pure, Result.andThen_ok, run_loadVar_row w b 32 32 (wholeC g u p) (0, 0) _ hN Tryd.underlying32 rfl (whole_info g u p hl)]
theorem res_whole2 {fn : Func} {x y : Tmp} (h : fn.results = #[.cell x 32, .cell y 32]) (tmps : Array Value) (w : World) (b c : Nat) (g g' : Bool) (n m : Int) (p q : List Int)
    (hx : tmps.getD x undef = .pointer (some ⟨b, 0, none⟩)) (hy : tmps.getD y undef = .pointer (some ⟨c, 0, none⟩)) (hN : WholeAt w b g n p) (hM : WholeAt w c g' m q) (hl : p.length = 204) (hm : q.length = 204) :
    (results fn tmps).run Tryd.prog w = .ok (.tuple #[.agg (wholeC g n p), .agg (wholeC g' m q)]) w := by
  have e1 := run_loadVar_row w b 32 32 (wholeC g n p) (0, 0) _ hN Tryd.underlying32 rfl (whole_info g n p hl)
  have e2 := run_loadVar_row w c 32 32 (wholeC g' m q) (0, 0) _ hM Tryd.underlying32 rfl (whole_info g' m q hm)
  have hx' : tmps[x]?.getD undef = .pointer (some ⟨b, 0, none⟩) := by simpa using hx
  have hy' : tmps[y]?.getD undef = .pointer (some ⟨c, 0, none⟩) := by simpa using hy
  simp [results, h, hx', hy', asAddr, e1, e2]

set_option maxHeartbeats 2000000 in
set_option maxRecDepth 100000 in
theorem wholeDivide_any {n m k j : Nat} {p q : List Int} (g g' : Bool) (w : World) (hP : Rep n k p) (hQ : Rep m j q) (hk : k ≤ 202) (hj : 0 < j) :
    Calls Tryd.prog 30 #[.agg (wholeC g k p), .agg (wholeC g' j q)] w fun e w' => (∃ (i l : Nat) (r s : List Int), e = .returned (.tuple #[.agg (wholeC ((g != g') && decide (0 < i)) i r), .agg (wholeC (g && decide (0 < l)) l s)]) ∧ Rep (n / m) i r ∧ Rep (n % m) l s) ∧ Below w.heap.size w w' := by
  have hz := zero_nat.1
  have hz1 := zero_whole.1
  have hp := hP.len
  have hq := hQ.len
  have A : WholeAt ((((w.alloc (.cells (wholeC g k p) 32)).alloc (.cells (wholeC g' j q) 32)).alloc (.cells (wholeC false 0 zP) 32)).alloc (.cells (wholeC false 0 zP) 32)) w.heap.size g k p := RowAt.old (RowAt.old (RowAt.old (WholeAt.new w g k p) _) _) _
  have B : WholeAt ((((w.alloc (.cells (wholeC g k p) 32)).alloc (.cells (wholeC g' j q) 32)).alloc (.cells (wholeC false 0 zP) 32)).alloc (.cells (wholeC false 0 zP) 32)) (w.heap.size + 1) g' j q := by
    have := RowAt.old (RowAt.old (WholeAt.new (w.alloc (.cells (wholeC g k p) 32)) g' j q) (.cells (wholeC false 0 zP) 32)) (.cells (wholeC false 0 zP) 32)
    simp only [World.size_alloc] at this; exact this
  have C : WholeAt ((((w.alloc (.cells (wholeC g k p) 32)).alloc (.cells (wholeC g' j q) 32)).alloc (.cells (wholeC false 0 zP) 32)).alloc (.cells (wholeC false 0 zP) 32)) (w.heap.size + 1 + 1) false 0 zP := by
    have := RowAt.old (WholeAt.new ((w.alloc (.cells (wholeC g k p) 32)).alloc (.cells (wholeC g' j q) 32)) false 0 zP) (.cells (wholeC false 0 zP) 32)
    simp only [World.size_alloc] at this; exact this
  have D : WholeAt ((((w.alloc (.cells (wholeC g k p) 32)).alloc (.cells (wholeC g' j q) 32)).alloc (.cells (wholeC false 0 zP) 32)).alloc (.cells (wholeC false 0 zP) 32)) (w.heap.size + 1 + 1 + 1) false 0 zP := by
    have := WholeAt.new (((w.alloc (.cells (wholeC g k p) 32)).alloc (.cells (wholeC g' j q) 32)).alloc (.cells (wholeC false 0 zP) 32)) false 0 zP
    simp only [World.size_alloc] at this; exact this
  have hB : Below w.heap.size w ((((w.alloc (.cells (wholeC g k p) 32)).alloc (.cells (wholeC g' j q) 32)).alloc (.cells (wholeC false 0 zP) 32)).alloc (.cells (wholeC false 0 zP) 32)) := ((((Below.refl _ _).alloc (Nat.le_refl _) _).alloc (by simp) _).alloc (by simp; omega) _).alloc (by simp; omega) _
  obtain ⟨W, hWd⟩ : ∃ W, W = ((((w.alloc (.cells (wholeC g k p) 32)).alloc (.cells (wholeC g' j q) 32)).alloc (.cells (wholeC false 0 zP) 32)).alloc (.cells (wholeC false 0 zP) 32)) := ⟨_, rfl⟩
  have hWs : W.heap.size = w.heap.size + 1 + 1 + 1 + 1 := by rw [hWd]; simp
  have HP := hideT' (And.intro hP hQ)
  clear hP hQ
  go_enter Tryd.func30, Tryd.ntmps30
  go_wp2_with (first | (refine load_mid_nat rfl _ rfl w.heap.size 1 rfl k p A.size hp ?_) | (refine load_mid_nat rfl _ rfl (w.heap.size + 1) 1 rfl j q B.size hq ?_))
  rw [← hWd] at A B C D hB ⊢
  clear hWd
  refine (divide_any W HP.out.1 HP.out.2 hj hk).mono ?_
  rintro e w1 ⟨i, l, r, s, rfl, hR1, hR2, hW1⟩
  have hr := hR1.len
  have hs := hR2.len
  have HR := hideT' (And.intro hR1 hR2)
  have hs1 := hW1.size
  have A1 : WholeAt w1 w.heap.size g k p := RowAt.below A hW1 (by omega)
  have B1 : WholeAt w1 (w.heap.size + 1) g' j q := RowAt.below B hW1 (by omega)
  have C1 : WholeAt w1 (w.heap.size + 1 + 1) false 0 zP := RowAt.below C hW1 (by omega)
  have D1 : WholeAt w1 (w.heap.size + 1 + 1 + 1) false 0 zP := RowAt.below D hW1 (by omega)
  have hB1 : Below w.heap.size w w1 := hB.trans (hW1.mono hB.size)
  have F1 := (NatAt.new w1 0 zP).old (.cells (natC 0 zP) 30)
  have F2 := NatAt.new (w1.alloc (.cells (natC 0 zP) 30)) 0 zP
  simp only [World.size_alloc] at F2
  clear A B C D hB hW1 hR1 hR2
  go_wp2_with (first | (refine store_nat rfl _ _ rfl rfl w1.heap.size i r rfl rfl 0 zP F1 zP_len hr ?_; intro w2 hN2 hg2 hs2) | (refine store_nat rfl _ _ rfl rfl (w1.heap.size + 1) l s rfl rfl 0 zP (F2.grown hg2 (by simp)) zP_len hs ?_; intro w3 hN3 hg3 hs3))
  have hs3' : w3.heap.size = w1.heap.size + 1 + 1 := by rw [hs3, hs2]; simp
  have N2 := hN2.grown hg3 (by simp)
  have A3 : WholeAt w3 w.heap.size g k p := RowAt.grown (RowAt.grown (RowAt.old (RowAt.old A1 (.cells (natC 0 zP) 30)) (.cells (natC 0 zP) 30)) hg2 (by simp; omega)) hg3 (by simp; omega)
  have B3 : WholeAt w3 (w.heap.size + 1) g' j q := RowAt.grown (RowAt.grown (RowAt.old (RowAt.old B1 (.cells (natC 0 zP) 30)) (.cells (natC 0 zP) 30)) hg2 (by simp; omega)) hg3 (by simp; omega)
  have C3 : WholeAt w3 (w.heap.size + 1 + 1) false 0 zP := RowAt.grown (RowAt.grown (RowAt.old (RowAt.old C1 (.cells (natC 0 zP) 30)) (.cells (natC 0 zP) 30)) hg2 (by simp; omega)) hg3 (by simp; omega)
  have D3 : WholeAt w3 (w.heap.size + 1 + 1 + 1) false 0 zP := RowAt.grown (RowAt.grown (RowAt.old (RowAt.old D1 (.cells (natC 0 zP) 30)) (.cells (natC 0 zP) 30)) hg2 (by simp; omega)) hg3 (by simp; omega)
  have hB3 : Below w.heap.size w w3 := (((hB1.alloc (by omega) _).alloc (by simp; omega) _).grown hg2 (by simp; omega) (by intro k hk; cases hk; omega)).grown hg3 (by rw [hs2]; simp; omega) (by intro k hk; cases hk; omega)
  clear A1 B1 C1 D1 hB1 F1 F2 hN2 hg2 hs2 hg3 hs3
  refine held_begin (fun w' => (WholeAt w' w.heap.size g k p ∧ WholeAt w' (w.heap.size + 1) g' j q) ∧ (NatAt w' w1.heap.size i r ∧ NatAt w' (w1.heap.size + 1) l s)) (by kernel_rfl) ?_
  have hS : (WholeAt w3.drew w.heap.size g k p ∧ WholeAt w3.drew (w.heap.size + 1) g' j q) ∧ (NatAt w3.drew w1.heap.size i r ∧ NatAt w3.drew (w1.heap.size + 1) l s) := ⟨⟨A3, B3⟩, ⟨N2, hN3⟩⟩
  refine held_valS 0 (some 16) rfl rfl (by kernel_rfl) (by kernel_rfl) (by kernel_rfl) noPanic_put rfl (.pointer (some ⟨w.heap.size, 0, none⟩)) (fun _ _ => by go_simp) hS ?_
  simp only [Act.put, List.setIfInBounds_toArray, List.set_cons_zero, List.set_cons_succ]
  refine held_valS 1 (some 17) rfl rfl (by kernel_rfl) (by kernel_rfl) (by kernel_rfl) noPanic_put rfl (.bool g) (fun _ h => by have c := h.1.1.neg; go_simp) hS ?_
  simp only [Act.put, List.setIfInBounds_toArray, List.set_cons_zero, List.set_cons_succ]
  refine held_valS 2 (some 18) rfl rfl (by kernel_rfl) (by kernel_rfl) (by kernel_rfl) noPanic_put rfl (.pointer (some ⟨w.heap.size + 1, 0, none⟩)) (fun _ _ => by go_simp) hS ?_
  simp only [Act.put, List.setIfInBounds_toArray, List.set_cons_zero, List.set_cons_succ]
  refine held_valS 3 (some 19) rfl rfl (by kernel_rfl) (by kernel_rfl) (by kernel_rfl) noPanic_put rfl (.bool g') (fun _ h => by have c := h.1.2.neg; go_simp) hS ?_
  simp only [Act.put, List.setIfInBounds_toArray, List.set_cons_zero, List.set_cons_succ]
  refine held_valS 4 (some 20) rfl rfl (by kernel_rfl) (by kernel_rfl) (by kernel_rfl) noPanic_put rfl (.bool (g != g')) (fun _ _ => by cases g <;> cases g' <;> go_simp) hS ?_
  simp only [Act.put, List.setIfInBounds_toArray, List.set_cons_zero, List.set_cons_succ]
  refine held_load 5 (some 21) rfl rfl (by kernel_rfl) (by kernel_rfl) (by kernel_rfl) noPanic_put rfl _ rfl (w1.heap.size) rfl i r (fun _ h => h.2.1) hr hS ?_
  simp only [Act.put, List.setIfInBounds_toArray, List.set_cons_zero, List.set_cons_succ]
  refine held_valS 7 (some 23) rfl rfl (by kernel_rfl) (by kernel_rfl) (by kernel_rfl) noPanic_put rfl (.pointer (some ⟨w.heap.size, 0, none⟩)) (fun _ _ => by go_simp) hS ?_
  simp only [Act.put, List.setIfInBounds_toArray, List.set_cons_zero, List.set_cons_succ]
  refine held_valS 8 (some 24) rfl rfl (by kernel_rfl) (by kernel_rfl) (by kernel_rfl) noPanic_put rfl (.bool g) (fun _ h => by have c := h.1.1.neg; go_simp) hS ?_
  simp only [Act.put, List.setIfInBounds_toArray, List.set_cons_zero, List.set_cons_succ]
  refine held_load 9 (some 25) rfl rfl (by kernel_rfl) (by kernel_rfl) (by kernel_rfl) noPanic_put rfl _ rfl (w1.heap.size + 1) rfl l s (fun _ h => h.2.2) hs hS ?_
  simp only [Act.put, List.setIfInBounds_toArray, List.set_cons_zero, List.set_cons_succ]
  refine held_call 6 (some 22) (by kernel_rfl) rfl rfl rfl 46 #[.bool (g != g'), .agg (natC i r)] (by go_simp) _ (wholeOf_any (g != g') i r w3.drew hr) ?_
  rintro e w4 ⟨rfl, hX4⟩
  have hX4 : Below w3.heap.size w3 w4 := ⟨hX4.os, hX4.tape, hX4.output, hX4.size, hX4.block⟩
  have hs4 := hX4.size
  have S4 : (WholeAt w4 w.heap.size g k p ∧ WholeAt w4 (w.heap.size + 1) g' j q) ∧ (NatAt w4 w1.heap.size i r ∧ NatAt w4 (w1.heap.size + 1) l s) := ⟨⟨RowAt.below A3 hX4 (by omega), RowAt.below B3 hX4 (by omega)⟩, ⟨N2.below hX4 (by omega), hN3.below hX4 (by omega)⟩⟩
  have C4 : WholeAt w4 (w.heap.size + 1 + 1) false 0 zP := RowAt.below C3 hX4 (by omega)
  have D4 : WholeAt w4 (w.heap.size + 1 + 1 + 1) false 0 zP := RowAt.below D3 hX4 (by omega)
  have hB4 : Below w.heap.size w w4 := hB3.trans (hX4.mono hB3.size)
  obtain ⟨G, hG⟩ : ∃ G, G = ((g != g') && decide (0 < i)) := ⟨_, rfl⟩
  rw [← hG]
  have HG := hideT' hG
  clear A3 B3 C3 D3 N2 hN3 hB3 hS hX4 hG
  refine ⟨_, rfl, S4, ?_⟩
  simp only [Act.put, List.setIfInBounds_toArray, List.set_cons_zero, List.set_cons_succ]
  refine held_call 10 (some 26) (by kernel_rfl) rfl rfl rfl 46 #[.bool g, .agg (natC l s)] (by go_simp) _ (wholeOf_any g l s w4 hs) ?_
  rintro e w5 ⟨rfl, hX5⟩
  have hs5 := hX5.size
  have S5 : (WholeAt w5 w.heap.size g k p ∧ WholeAt w5 (w.heap.size + 1) g' j q) ∧ (NatAt w5 w1.heap.size i r ∧ NatAt w5 (w1.heap.size + 1) l s) := ⟨⟨RowAt.below S4.1.1 hX5 (by omega), RowAt.below S4.1.2 hX5 (by omega)⟩, ⟨S4.2.1.below hX5 (by omega), S4.2.2.below hX5 (by omega)⟩⟩
  have C5 : WholeAt w5 (w.heap.size + 1 + 1) false 0 zP := RowAt.below C4 hX5 (by omega)
  have D5 : WholeAt w5 (w.heap.size + 1 + 1 + 1) false 0 zP := RowAt.below D4 hX5 (by omega)
  have hB5 : Below w.heap.size w w5 := hB4.trans (hX5.mono hB4.size)
  obtain ⟨H, hH⟩ : ∃ H, H = (g && decide (0 < l)) := ⟨_, rfl⟩
  rw [← hH]
  have HH := hideT' hH
  clear S4 C4 D4 hB4 hX5 hH
  refine ⟨_, rfl, S5, ?_⟩
  simp only [Act.put, List.setIfInBounds_toArray, List.set_cons_zero, List.set_cons_succ]
  refine held_store_whole 11 (by kernel_rfl) rfl rfl _ _ rfl rfl (w.heap.size + 1 + 1) G i r rfl rfl false 0 zP C5 zP_len hr ?_
  intro w6 hC6 hg6 hs6
  have S6 : (WholeAt w6 w.heap.size g k p ∧ WholeAt w6 (w.heap.size + 1) g' j q) ∧ (NatAt w6 w1.heap.size i r ∧ NatAt w6 (w1.heap.size + 1) l s) := ⟨⟨RowAt.grown S5.1.1 hg6 (by simp; omega), RowAt.grown S5.1.2 hg6 (by simp)⟩, ⟨S5.2.1.grown hg6 (by simp; omega), S5.2.2.grown hg6 (by simp; omega)⟩⟩
  have D6 : WholeAt w6 (w.heap.size + 1 + 1 + 1) false 0 zP := RowAt.grown D5 hg6 (by simp)
  have hB6 : Below w.heap.size w w6 := hB5.grown hg6 (by have := hB5.size; omega) (by intro k hk; cases hk; omega)
  refine ⟨S6, ?_⟩
  refine held_store_whole 12 (by kernel_rfl) rfl rfl _ _ rfl rfl (w.heap.size + 1 + 1 + 1) H l s rfl rfl false 0 zP D6 zP_len hs ?_
  intro w7 hD7 hg7 hs7
  have C7 : WholeAt w7 (w.heap.size + 1 + 1) G i r := RowAt.grown hC6 hg7 (by simp)
  refine ⟨⟨⟨RowAt.grown S6.1.1 hg7 (by first | (simp; done) | (simp; omega)), RowAt.grown S6.1.2 hg7 (by first | (simp; done) | (simp; omega))⟩, ⟨S6.2.1.grown hg7 (by first | (simp; done) | (simp; omega)), S6.2.2.grown hg7 (by first | (simp; done) | (simp; omega))⟩⟩, ?_⟩
  refine wpAnyH_done (by kernel_rfl) ?_ _
  refine NoPanic.normal ?_
  go_wp2
  refine bodyPost_ret (v := .tuple #[.agg (wholeC G i r), .agg (wholeC H l s)]) (res_whole2 Tryd.results30 _ _ (w.heap.size + 1 + 1) (w.heap.size + 1 + 1 + 1) _ _ _ _ _ _ rfl rfl C7 hD7 hr hs) rfl ⟨⟨i, l, r, s, by rw [HG.out, HH.out], HR.out.1, HR.out.2⟩, ?_⟩
  exact hB6.grown hg7 (by have := hB6.size; omega) (by intro k hk; cases hk; omega)
end Go.Proofs.YtohgdmebddinhaaDoor
