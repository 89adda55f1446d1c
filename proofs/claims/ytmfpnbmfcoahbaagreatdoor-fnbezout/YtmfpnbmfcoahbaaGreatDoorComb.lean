/-
  What less of impl's whole numbers answers; combinations (a number and two whole ones) in memory.
-/
import Derived.Test.YtmfpnbmfcoahbaaGreatDoorBezMath
import Derived.Test.YtmfpnbmfcoahbaaGreatDoorPkNumTimes
import Derived.Test.YtmfpnbmfcoahbaaGreatDoorWholeDiv
import Derived.Test.YtmfpnbmfcoahbaaGreatDoorFloat
import Derived.Test.YtmfpnbmfcoahbaaGreatDoorBaseLate
namespace Go.Proofs.YtmfpnbmfcoahbaaGreatDoor
open Go.RowKit
set_option linter.unusedVariables false

theorem sg_of (x : Int) : sg (decide (x < 0)) x.natAbs = x := sg_abs_of x
set_option maxHeartbeats 2000000 in
set_option maxRecDepth 100000 in
theorem less_any {k j m : Nat} {p q : List Int} (x y : Int) (g' : Bool) (w : World) (hP : Rep x.natAbs k p) (hQ : Rep m j q) (hy : sg g' m = y) (hk : k ≤ 201) (hj : j ≤ 201) :
    Calls Tryz.prog 28 #[.agg (wholeC (decide (x < 0)) k p), .agg (wholeC g' j q)] w fun e w' => ∃ (i : Nat) (r : List Int), e = .returned (.agg (wholeC (decide (x - y < 0)) i r)) ∧ Rep (x - y).natAbs i r ∧ Below w.heap.size w w' := by
  have hz := zero_whole.1
  have hp := hP.len
  have hq := hQ.len
  obtain ⟨g, hg⟩ : ∃ g, g = decide (x < 0) := ⟨_, rfl⟩
  have A := (WholeAt.new w g k p |> fun h => RowAt.old h (.cells (wholeC g' j q) 36) |> fun h => RowAt.old h (.cells (wholeC false 0 zP) 36))
  have B := (WholeAt.new (w.alloc (.cells (wholeC g k p) 36)) g' j q |> fun h => RowAt.old h (.cells (wholeC false 0 zP) 36))
  have C := WholeAt.new ((w.alloc (.cells (wholeC g k p) 36)).alloc (.cells (wholeC g' j q) 36)) false 0 zP
  have hB : Below w.heap.size w (((w.alloc (.cells (wholeC g k p) 36)).alloc (.cells (wholeC g' j q) 36)).alloc (.cells (wholeC false 0 zP) 36)) := (((Below.refl _ _).alloc (Nat.le_refl _) _).alloc (by first | (simp; done) | (simp; omega)) _).alloc (by first | (simp; done) | (simp; omega)) _
  have hws : (((w.alloc (.cells (wholeC g k p) 36)).alloc (.cells (wholeC g' j q) 36)).alloc (.cells (wholeC false 0 zP) 36)).heap.size = w.heap.size + 1 + 1 + 1 := by simp
  simp only [World.size_alloc] at B C
  rw [← hg]
  have HG := hide (And.intro hg hy)
  have HP := hide (And.intro hP hQ)
  clear hP hQ hg hy
  go_enter Tryz.func28, Tryz.ntmps28
  generalize hw0 : ((w.alloc (.cells (wholeC g k p) 36)).alloc (.cells (wholeC g' j q) 36)).alloc (.cells (wholeC false 0 zP) 36) = w0 at A B C hB hws
  go_wp2_with fail
  clear hw0
  refine held_begin (fun w' => WholeAt w' w.heap.size g k p ∧ WholeAt w' (w.heap.size + 1) g' j q) (by kernel_rfl) ?_
  have hS : WholeAt w0.drew w.heap.size g k p ∧ WholeAt w0.drew (w.heap.size + 1) g' j q := ⟨A, B⟩
  refine held_valS 0 (some 5) rfl rfl (by kernel_rfl) (by kernel_rfl) (by kernel_rfl) noPanic_put rfl (.agg (wholeC g k p)) (fun _ h => run_row_whole _ rfl w.heap.size rfl g k p h.1 hp) hS ?_
  simp only [Act.put, List.setIfInBounds_toArray, List.set_cons_zero, List.set_cons_succ]
  refine held_val 1 (some 6) rfl rfl (by kernel_rfl) (by kernel_rfl) (by kernel_rfl) noPanic_put rfl (.pointer (some ⟨w.heap.size + 1, 0, none⟩)) (fun _ => by go_simp) hS ?_
  simp only [Act.put, List.setIfInBounds_toArray, List.set_cons_zero, List.set_cons_succ]
  refine held_valS 2 (some 7) rfl rfl (by kernel_rfl) (by kernel_rfl) (by kernel_rfl) noPanic_put rfl (.bool g') (fun _ h => BL.run_cell1 (.tmp 6) 4 rfl ⟨w.heap.size + 1, 0, none⟩ rfl _ Tryz.underlying4 rfl h.2.neg) hS ?_
  simp only [Act.put, List.setIfInBounds_toArray, List.set_cons_zero, List.set_cons_succ]
  refine held_val 3 (some 8) rfl rfl (by kernel_rfl) (by kernel_rfl) (by kernel_rfl) noPanic_put rfl (.bool (!g')) (fun _ => by go_simp) hS ?_
  simp only [Act.put, List.setIfInBounds_toArray, List.set_cons_zero, List.set_cons_succ]
  refine held_val 4 (some 9) rfl rfl (by kernel_rfl) (by kernel_rfl) (by kernel_rfl) noPanic_put rfl (.pointer (some ⟨w.heap.size + 1, 1, none⟩)) (fun _ => by go_simp) hS ?_
  simp only [Act.put, List.setIfInBounds_toArray, List.set_cons_zero, List.set_cons_succ]
  refine held_valS 5 (some 10) rfl rfl (by kernel_rfl) (by kernel_rfl) (by kernel_rfl) noPanic_put rfl (.agg (natC j q)) (fun _ h => run_mid_nat _ rfl (w.heap.size + 1) 1 rfl j q h.2.size hq) hS ?_
  simp only [Act.put, List.setIfInBounds_toArray, List.set_cons_zero, List.set_cons_succ]
  refine held_call 6 (some 11) (by kernel_rfl) rfl rfl rfl 47 #[.bool (!g'), .agg (natC j q)] (by go_simp) _ (wholeOf_any (!g') j q w0.drew hq) ?_
  rintro e w1 ⟨rfl, hW1⟩
  have hs1 : w0.heap.size ≤ w1.heap.size := hW1.size
  have hS1 : WholeAt w1 w.heap.size g k p ∧ WholeAt w1 (w.heap.size + 1) g' j q := ⟨RowAt.below hS.1 hW1 (by show _ < w0.heap.size; omega), RowAt.below hS.2 hW1 (by show _ < w0.heap.size; omega)⟩
  refine ⟨_, rfl, hS1, ?_⟩
  simp only [Act.put, List.setIfInBounds_toArray, List.set_cons_zero, List.set_cons_succ]
  refine held_call 7 (some 12) (by kernel_rfl) rfl rfl rfl 50 #[.agg (wholeC g k p), .agg (wholeC (!g' && decide (0 < j)) j q)] (by go_simp) _ (added_any g (!g' && decide (0 < j)) w1 HP.out.1 HP.out.2 hk hj (fun h => by have := HG.out.1; rw [h] at this; have := of_decide_eq_true this.symm; omega)) ?_
  rintro e w2 ⟨i, r, rfl, hR, hW2⟩
  have hs2 := hW2.size
  have hS2 : WholeAt w2 w.heap.size g k p ∧ WholeAt w2 (w.heap.size + 1) g' j q := ⟨RowAt.below hS1.1 hW2 (by omega), RowAt.below hS1.2 hW2 (by omega)⟩
  have hrl := hR.len
  refine ⟨_, rfl, hS2, ?_⟩
  simp only [Act.put, List.setIfInBounds_toArray, List.set_cons_zero, List.set_cons_succ]
  have C2 : WholeAt w2 (w.heap.size + 1 + 1) false 0 zP := RowAt.below (RowAt.below (w := w0.drew) C hW1 (by show _ < w0.heap.size; omega)) hW2 (by omega)
  have hval : sg g x.natAbs + sg (!g' && decide (0 < j)) m = x - y := by
    have e1 : sg g x.natAbs = x := by rw [HG.out.1]; exact sg_of x
    have e2 : sg (!g' && decide (0 < j)) m = -y := by
      rw [← HG.out.2]
      by_cases h0 : m = 0
      · rw [h0]; unfold sg; simp
      · have hj0 : 0 < j := Nat.pos_of_ne_zero (fun h => h0 (HP.out.2.zero_iff.1 h))
        rw [decide_eq_true hj0, Bool.and_true]
        unfold sg; cases g' <;> simp
    rw [e1, e2]; omega
  rw [hval] at hR ⊢
  have HR := hide hR
  refine held_store_whole 8 (by kernel_rfl) rfl rfl _ _ rfl rfl (w.heap.size + 1 + 1) (decide (x - y < 0)) i r rfl rfl false 0 zP C2 zP_len hrl ?_
  intro w3 hN3 hg3 hs3
  refine ⟨⟨RowAt.grown hS2.1 hg3 (by simp; omega), RowAt.grown hS2.2 hg3 (by simp)⟩, ?_⟩
  refine wpAnyH_done (by kernel_rfl) ?_ _
  refine NoPanic.normal ?_
  have hB2 : Below w.heap.size w w2 := (hB.drew.trans (hW1.mono hB.size)).trans (hW2.mono (by have := hB.size; omega))
  go_wp2
  refine bodyPost_ret (v := .agg (wholeC (decide (x - y < 0)) i r)) (res_whole Tryz.results28 _ _ (w.heap.size + 1 + 1) _ _ _ rfl hN3 hrl) rfl ⟨i, r, rfl, HR.out, hB2.grown hg3 (by have := hB2.size; omega) (by intro k hk; cases hk; omega)⟩

/-- A combination's cells. -/
def combL (u : Int) (p : List Int) (g1 : Bool) (u1 : Int) (p1 : List Int) (g2 : Bool) (u2 : Int) (p2 : List Int) : List Value := natL u p ++ (Value.bool g1 :: natL u1 p1) ++ (Value.bool g2 :: natL u2 p2)
def combC (u : Int) (p : List Int) (g1 : Bool) (u1 : Int) (p1 : List Int) (g2 : Bool) (u2 : Int) (p2 : List Int) : Array Value := (combL u p g1 u1 p1 g2 u2 p2).toArray
def CombAt (w : World) (b : Nat) (u : Int) (p : List Int) (g1 : Bool) (u1 : Int) (p1 : List Int) (g2 : Bool) (u2 : Int) (p2 : List Int) : Prop := RowAt w b 38 (combC u p g1 u1 p1 g2 u2 p2)
section
variable {w : World} {b : Nat} {u : Int} {p : List Int} {g1 : Bool} {u1 : Int} {p1 : List Int} {g2 : Bool} {u2 : Int} {p2 : List Int}
theorem CombAt.sum (h : CombAt w b u p g1 u1 p1 g2 u2 p2) : w.rangeAt b 0 (natL u p) := by
  have h' : RowAt w b 38 ([] ++ natL u p ++ ((Value.bool g1 :: natL u1 p1) ++ (Value.bool g2 :: natL u2 p2))).toArray := by
    have := h; unfold CombAt combC combL at this; simpa using this
  exact h'.range
theorem CombAt.x (h : CombAt w b u p g1 u1 p1 g2 u2 p2) (hp : p.length = 204) : w.rangeAt b 205 (Value.bool g1 :: natL u1 p1) := by
  have h' : RowAt w b 38 (natL u p ++ (Value.bool g1 :: natL u1 p1) ++ (Value.bool g2 :: natL u2 p2)).toArray := h
  have := h'.range
  rwa [natL_len, hp] at this
theorem CombAt.y (h : CombAt w b u p g1 u1 p1 g2 u2 p2) (hp : p.length = 204) (hp1 : p1.length = 204) : w.rangeAt b 411 (Value.bool g2 :: natL u2 p2) := by
  have h' : RowAt w b 38 ((natL u p ++ (Value.bool g1 :: natL u1 p1)) ++ (Value.bool g2 :: natL u2 p2) ++ []).toArray := by
    have := h; unfold CombAt combC combL at this; simpa using this
  have := h'.range
  rwa [List.length_append, List.length_cons, natL_len, natL_len, hp, hp1] at this
theorem CombAt.used (h : CombAt w b u p g1 u1 p1 g2 u2 p2) : w.cell? ⟨b, 0, none⟩ = some (.int .i64 u) := h.sum 0 _ rfl
end
theorem comb_len (u : Int) (p : List Int) (g1 : Bool) (u1 : Int) (p1 : List Int) (g2 : Bool) (u2 : Int) (p2 : List Int) (h : p.length = 204) (h1 : p1.length = 204) (h2 : p2.length = 204) : (combC u p g1 u1 p1 g2 u2 p2).size = 617 := by
  simp [combC, combL, natL_len, h, h1, h2]
theorem zero_comb : (∀ w, (zeroValue 38).run Tryz.prog w = .ok (.agg (combC 0 zP false 0 zP false 0 zP)) w) ∧ (Tryz.prog.info? 38).map (·.size) = some 617 := zero_of_info (by kernel_rfl)
theorem comb_info (u : Int) (p : List Int) (g1 : Bool) (u1 : Int) (p1 : List Int) (g2 : Bool) (u2 : Int) (p2 : List Int) (h : p.length = 204) (h1 : p1.length = 204) (h2 : p2.length = 204) : (Tryz.prog.info? 38).map (·.size) = some (combC u p g1 u1 p1 g2 u2 p2).size := by
  rw [comb_len u p g1 u1 p1 g2 u2 p2 h h1 h2]; exact zero_comb.2
theorem comb_one (u : Int) (p : List Int) (g1 : Bool) (u1 : Int) (p1 : List Int) (g2 : Bool) (u2 : Int) (p2 : List Int) : (combC u p g1 u1 p1 g2 u2 p2).all (·.oneCell') = true := by
  rw [Array.all_eq_true_iff_forall_mem]
  intro v hv
  simp only [combC, combL, List.mem_toArray, List.mem_append, List.mem_cons] at hv
  rcases hv with (h | h | h) | h | h
  · exact natL_one _ _ v h
  · rw [h]; rfl
  · exact natL_one _ _ v h
  · rw [h]; rfl
  · exact natL_one _ _ v h
theorem comb_places : ∃ fields : Array Field, Tryz.prog.underlying 38 = some (.struct fields) ∧ fields.toList.mapM (fun f => (Tryz.prog.info? f.type).map fun i => (f.offset, i.size)) = some [(0, 205), (205, 206), (411, 206)] := by
  exact ⟨_, Tryz.underlying38, by kernel_rfl⟩
theorem wholeL (g : Bool) (u : Int) (p : List Int) : (Value.agg (wholeC g u p)).cells.toList = Value.bool g :: natL u p := rfl
theorem built_comb3 (u : Int) (p : List Int) (g1 : Bool) (u1 : Int) (p1 : List Int) (g2 : Bool) (u2 : Int) (p2 : List Int) (h : p.length = 204) (h1 : p1.length = 204) (h2 : p2.length = 204) : Tryz.prog.built 38 [(0, .agg (natC u p)), (1, .agg (wholeC g1 u1 p1)), (2, .agg (wholeC g2 u2 p2))] = some (combC u p g1 u1 p1 g2 u2 p2) := by
  obtain ⟨fs, e1, e2⟩ := comb_places
  have hz : (Tryz.prog.info? 38).bind (·.zero) = some (.agg (combC 0 zP false 0 zP false 0 zP)) := by kernel_rfl
  rw [built_of e1 hz e2]
  have s0 : combC 0 zP false 0 zP false 0 zP = (([] : List Value) ++ natL 0 zP ++ ((Value.bool false :: natL 0 zP) ++ (Value.bool false :: natL 0 zP))).toArray := by simp [combC, combL]
  rw [s0, fill_step _ [] (natL 0 zP) _ 0 _ _ (by rw [natL_len, zP_len]; rfl) (by rw [cells_agg, natC_eq]; simp [natL_len, zP_len, h])]
  rw [show (([] : List Value) ++ (Value.agg (natC u p)).cells.toList ++ ((Value.bool false :: natL 0 zP) ++ (Value.bool false :: natL 0 zP))).toArray = (natL u p ++ (Value.bool false :: natL 0 zP) ++ (Value.bool false :: natL 0 zP)).toArray by rw [cells_agg, natC_eq]; simp]
  rw [fill_step _ (natL u p) (Value.bool false :: natL 0 zP) _ 1 _ _ (by rw [natL_len, h, List.length_cons, natL_len, zP_len]; rfl) (by rw [wholeL]; simp [natL_len, zP_len, h1]), wholeL]
  rw [show (natL u p ++ (Value.bool g1 :: natL u1 p1) ++ (Value.bool false :: natL 0 zP)).toArray = ((natL u p ++ (Value.bool g1 :: natL u1 p1)) ++ (Value.bool false :: natL 0 zP) ++ []).toArray by simp]
  rw [fill_step _ (natL u p ++ (Value.bool g1 :: natL u1 p1)) (Value.bool false :: natL 0 zP) [] 2 _ _ (by rw [List.length_append, List.length_cons, List.length_cons, natL_len, natL_len, natL_len, zP_len, h, h1]; rfl) (by rw [wholeL]; simp [natL_len, zP_len, h2]), wholeL]
  simp [Instr.fill, combC, combL]
theorem built_comb01 (u : Int) (p : List Int) (g1 : Bool) (u1 : Int) (p1 : List Int) (h : p.length = 204) (h1 : p1.length = 204) : Tryz.prog.built 38 [(0, .agg (natC u p)), (1, .agg (wholeC g1 u1 p1))] = some (combC u p g1 u1 p1 false 0 zP) := by
  obtain ⟨fs, e1, e2⟩ := comb_places
  have hz : (Tryz.prog.info? 38).bind (·.zero) = some (.agg (combC 0 zP false 0 zP false 0 zP)) := by kernel_rfl
  rw [built_of e1 hz e2]
  have s0 : combC 0 zP false 0 zP false 0 zP = (([] : List Value) ++ natL 0 zP ++ ((Value.bool false :: natL 0 zP) ++ (Value.bool false :: natL 0 zP))).toArray := by simp [combC, combL]
  rw [s0, fill_step _ [] (natL 0 zP) _ 0 _ _ (by rw [natL_len, zP_len]; rfl) (by rw [cells_agg, natC_eq]; simp [natL_len, zP_len, h])]
  rw [show (([] : List Value) ++ (Value.agg (natC u p)).cells.toList ++ ((Value.bool false :: natL 0 zP) ++ (Value.bool false :: natL 0 zP))).toArray = (natL u p ++ (Value.bool false :: natL 0 zP) ++ (Value.bool false :: natL 0 zP)).toArray by rw [cells_agg, natC_eq]; simp]
  rw [fill_step _ (natL u p) (Value.bool false :: natL 0 zP) _ 1 _ _ (by rw [natL_len, h, List.length_cons, natL_len, zP_len]; rfl) (by rw [wholeL]; simp [natL_len, zP_len, h1]), wholeL]
  simp [Instr.fill, combC, combL]
theorem built_comb02 (u : Int) (p : List Int) (g2 : Bool) (u2 : Int) (p2 : List Int) (h : p.length = 204) (h2 : p2.length = 204) : Tryz.prog.built 38 [(0, .agg (natC u p)), (2, .agg (wholeC g2 u2 p2))] = some (combC u p false 0 zP g2 u2 p2) := by
  obtain ⟨fs, e1, e2⟩ := comb_places
  have hz : (Tryz.prog.info? 38).bind (·.zero) = some (.agg (combC 0 zP false 0 zP false 0 zP)) := by kernel_rfl
  rw [built_of e1 hz e2]
  have s0 : combC 0 zP false 0 zP false 0 zP = (([] : List Value) ++ natL 0 zP ++ ((Value.bool false :: natL 0 zP) ++ (Value.bool false :: natL 0 zP))).toArray := by simp [combC, combL]
  rw [s0, fill_step _ [] (natL 0 zP) _ 0 _ _ (by rw [natL_len, zP_len]; rfl) (by rw [cells_agg, natC_eq]; simp [natL_len, zP_len, h])]
  rw [show (([] : List Value) ++ (Value.agg (natC u p)).cells.toList ++ ((Value.bool false :: natL 0 zP) ++ (Value.bool false :: natL 0 zP))).toArray = ((natL u p ++ (Value.bool false :: natL 0 zP)) ++ (Value.bool false :: natL 0 zP) ++ []).toArray by rw [cells_agg, natC_eq]; simp]
  rw [fill_step _ (natL u p ++ (Value.bool false :: natL 0 zP)) (Value.bool false :: natL 0 zP) [] 2 _ _ (by rw [List.length_append, List.length_cons, natL_len, natL_len, zP_len, h]; rfl) (by rw [wholeL]; simp [natL_len, zP_len, h2]), wholeL]
  simp [Instr.fill, combC, combL]
/-- A row of whatever struct is read whole. -/
theorem run_rowT {o : Oper} {a : Act} {w : World} (x : Operand) (T : TypeId) (ho : o.op = .load T x) (b : Nat) (hx : a.eval x = .pointer (some ⟨b, 0, none⟩)) (cs : Array Value) (fs : Array Field) (hN : RowAt w b T cs) (hu : Tryz.prog.underlying T = some (.struct fs)) (hi : (Tryz.prog.info? T).map (·.size) = some cs.size) :
    (execOp a.eval o).run Tryz.prog w = .ok (.value (.agg cs)) w := by
  unfold execOp
  simp only [ho, hx, Instr.loadAt, Instr.sureAddr, Sem.run_bind, Sem.run_pure, Result.andThen_ok, run_loadVar_row w b T T cs (0, 0) _ hN hu rfl hi]
end Go.Proofs.YtmfpnbmfcoahbaaGreatDoor
