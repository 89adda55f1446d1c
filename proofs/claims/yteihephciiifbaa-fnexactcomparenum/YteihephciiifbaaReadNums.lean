/-
  What impl.readNums answers: two texts as fractions.
-/
import Derived.Test.YteihephciiifbaaReadNum
namespace Go.Proofs.Yteihephciiifbaa
open Go.RowKit
set_option linter.unusedVariables false

/-- A fraction is read whole, ahead of all else. -/
theorem held_load_num {ops : Array Oper} {Q : Exit → Act → World → Prop} {md : Region.Mode} {S : World → Prop} {o : Oper} {fuel : Nat} {listed : Array Bool} {a : Act} {w : World} (i : Nat) (d : Option Tmp) (hi : ops[i]? = some o) (hd : o.dst = d) (hs : Region.noSelect ops = true) (hf : Region.free md ops listed i = true) (hr : (Region.ready md ops listed).contains i = true)
    (hQ : ∀ c a d v w, Q (.panic c) (Act.put a d v) w → Q (.panic c) a w) (hw : Region.wanted o (yielded ops a.tmps) = true) (x : Operand) (ho : o.op = .load 34 x)
    (b : Nat) (hx : a.eval x = .pointer (some ⟨b, 0, none⟩)) (g : Bool) (u : Int) (p : List Int) (v : Int) (q : List Int) (hN : ∀ w, S w → NumAt w b g u p v q) (hl : p.length = 204) (hm : q.length = 204) (hS : S w)
    (h : wpAnyH Try.prog md ops Q S fuel (listed.setIfInBounds i true) (a.put d (.agg (numC g u p v q))) w) : wpAnyH Try.prog md ops Q S (fuel + 1) listed a w := by
  subst hd
  exact wpAnyH_take hi hs hf hr (fun c a w => hQ c a _ _ w) (.inl ⟨hw, fun w hw' => by
    unfold execOp
    simp only [ho, hx, Instr.loadAt, Instr.sureAddr, Sem.run_bind, Sem.run_pure, Result.andThen_ok, run_loadVar_row w b 34 34 (numC g u p v q) (0, 0) _ (hN w hw') Try.underlying34 rfl (num_info g u p v q hl hm)]⟩) hS h

theorem res_num2_tmp {fn : Func} {x y u : Tmp} (h : fn.results = #[.cell x 34, .cell y 34, .tmp u]) (tmps : Array Value) (w : World) (b c : Nat) (g g' : Bool) (n m n' m' : Int) (p q p' q' : List Int) (v : Value)
    (hx : tmps.getD x undef = .pointer (some ⟨b, 0, none⟩)) (hy : tmps.getD y undef = .pointer (some ⟨c, 0, none⟩)) (hv : tmps.getD u undef = v) (hN : NumAt w b g n p m q) (hM : NumAt w c g' n' p' m' q') (hl : p.length = 204) (hm : q.length = 204) (hl' : p'.length = 204) (hm' : q'.length = 204) :
    (results fn tmps).run Try.prog w = .ok (.tuple #[.agg (numC g n p m q), .agg (numC g' n' p' m' q'), v]) w := by
  have e1 := run_loadVar_row w b 34 34 (numC g n p m q) (0, 0) _ hN Try.underlying34 rfl (num_info g n p m q hl hm)
  have e2 := run_loadVar_row w c 34 34 (numC g' n' p' m' q') (0, 0) _ hM Try.underlying34 rfl (num_info g' n' p' m' q' hl' hm')
  have hx' : tmps[x]?.getD undef = .pointer (some ⟨b, 0, none⟩) := by simpa using hx
  have hy' : tmps[y]?.getD undef = .pointer (some ⟨c, 0, none⟩) := by simpa using hy
  have hv' : tmps[u]?.getD undef = v := by simpa using hv
  simp [results, h, hx', hy', hv', asAddr, e1, e2]

/-- What is read of a text. -/
def OneN (l : List UInt8) (g : Bool) (k j : Nat) (p q : List Int) : Prop := p.length = 204 ∧ q.length = 204 ∧ (okN l = true → g = negN l ∧ Rep (topN l) k p ∧ Rep (botN l) j q ∧ k ≤ 100 ∧ j ≤ 100 ∧ j ≠ 0)

set_option maxHeartbeats 1000000 in
set_option maxRecDepth 100000 in
theorem readNums_any (a b : ByteArray) (w : World) (hsa : a.size ≤ maxLen) (hsb : b.size ≤ maxLen) :
    Calls Try.prog 12 #[.string a, .string b] w fun e w' => ∃ (g g' : Bool) (k j k' j' : Nat) (p q p' q' : List Int), e = .returned (.tuple #[.agg (numC g k p j q), .agg (numC g' k' p' j' q'), .bool (okN a.data.toList && okN b.data.toList)]) ∧ OneN a.data.toList g k j p q ∧ OneN b.data.toList g' k' j' p' q' ∧ Below w.heap.size w w' := by
  have hz := zero_num.1
  have A : NumAt ((w.alloc (.cells (numC false 0 zP 0 zP) 34)).alloc (.cells (numC false 0 zP 0 zP) 34)) w.heap.size false 0 zP 0 zP := RowAt.old (NumAt.new w false 0 zP 0 zP) (.cells (numC false 0 zP 0 zP) 34)
  have B := NumAt.new (w.alloc (.cells (numC false 0 zP 0 zP) 34)) false 0 zP 0 zP
  have hB : Below w.heap.size w ((w.alloc (.cells (numC false 0 zP 0 zP) 34)).alloc (.cells (numC false 0 zP 0 zP) 34)) := ((Below.refl _ _).alloc (Nat.le_refl _) _).alloc (by simp) _
  simp only [World.size_alloc] at B
  go_enter Try.func12, Try.ntmps12
  go_wp2_with fail
  refine (readNum_any a _ hsa).mono ?_
  rintro e w1 ⟨⟨g, k, j, p, q, rfl, hp, hq, hR⟩, hW1⟩
  obtain ⟨oa, hoa⟩ : ∃ oa, oa = okN a.data.toList := ⟨_, rfl⟩
  rw [← hoa]
  have HA : Hid (OneN a.data.toList g k j p q) := ⟨hp, hq, hR⟩
  have HOA := hide hoa
  have A1 : NumAt w1 w.heap.size false 0 zP 0 zP := RowAt.below A hW1 (by simp; omega)
  have B1 : NumAt w1 (w.heap.size + 1) false 0 zP 0 zP := RowAt.below B hW1 (by simp)
  have hB1 : Below w.heap.size w w1 := hB.trans (hW1.mono (by simp; omega))
  have hs1 := hW1.size
  simp only [World.size_alloc] at hs1
  clear A B hB hW1 hoa hR
  have C1 := NumAt.new w1 false 0 zP 0 zP
  go_wp2_with (refine store_num rfl _ _ rfl rfl w1.heap.size g k p j q rfl rfl false 0 zP 0 zP C1 zP_len zP_len hp hq ?_; intro w2 hN2 hg2 hs2)
  refine (readNum_any b _ hsb).mono ?_
  rintro e w3 ⟨⟨g', k', j', p', q', rfl, hp', hq', hR'⟩, hW3⟩
  obtain ⟨ob, hob⟩ : ∃ ob, ob = okN b.data.toList := ⟨_, rfl⟩
  rw [← hob]
  have HB : Hid (OneN b.data.toList g' k' j' p' q') := ⟨hp', hq', hR'⟩
  have HOB := hide hob
  have hs3 := hW3.size
  have hlt2 := RowAt.lt hN2
  have A3 : NumAt w3 w.heap.size false 0 zP 0 zP := RowAt.below (RowAt.grown (RowAt.old A1 (.cells (numC false 0 zP 0 zP) 34)) hg2 (by simp; omega)) hW3 (by rw [hs2]; simp; omega)
  have B3 : NumAt w3 (w.heap.size + 1) false 0 zP 0 zP := RowAt.below (RowAt.grown (RowAt.old B1 (.cells (numC false 0 zP 0 zP) 34)) hg2 (by simp; omega)) hW3 (by rw [hs2]; simp; omega)
  have C3 : NumAt w3 w1.heap.size g k p j q := RowAt.below hN2 hW3 hlt2
  have hB3 : Below w.heap.size w w3 := ((hB1.alloc (by omega) _).grown hg2 (by simp; omega) (by intro k hk; cases hk; omega)).trans (hW3.mono (by rw [hs2]; simp; omega))
  rw [hs2] at hs3
  simp only [World.size_alloc] at hs3
  clear A1 B1 C1 hB1 hN2 hg2 hs2 hW3 hlt2 hob hR'
  have D3 := NumAt.new w3 false 0 zP 0 zP
  go_wp2_with (refine store_num rfl _ _ rfl rfl w3.heap.size g' k' p' j' q' rfl rfl false 0 zP 0 zP D3 zP_len zP_len hp' hq' ?_; intro w4 hN4 hg4 hs4)
  have hs4' : w4.heap.size = w3.heap.size + 1 := by rw [hs4]; simp
  have A4 : NumAt w4 w.heap.size false 0 zP 0 zP := RowAt.grown (RowAt.old A3 (.cells (numC false 0 zP 0 zP) 34)) hg4 (by simp; omega)
  have B4 : NumAt w4 (w.heap.size + 1) false 0 zP 0 zP := RowAt.grown (RowAt.old B3 (.cells (numC false 0 zP 0 zP) 34)) hg4 (by simp; omega)
  have C4 : NumAt w4 w1.heap.size g k p j q := RowAt.grown (RowAt.old C3 (.cells (numC false 0 zP 0 zP) 34)) hg4 (by simp; omega)
  have hB4 : Below w.heap.size w w4 := (hB3.alloc (by omega) _).grown hg4 (by simp; omega) (by intro k hk; cases hk; omega)
  clear A3 B3 C3 D3 hB3 hg4 hs4
  clear hz
  have HE : Hid ((okN a.data.toList && okN b.data.toList) = (oa && ob)) := by unfold Hid; rw [← HOA.out, ← HOB.out]
  cases oa with
  | true =>
    refine held_begin (fun w' => NumAt w' w1.heap.size g k p j q ∧ NumAt w' w3.heap.size g' k' p' j' q') (by kernel_rfl) ?_
    have hS : NumAt w4.drew w1.heap.size g k p j q ∧ NumAt w4.drew w3.heap.size g' k' p' j' q' := ⟨C4, hN4⟩
    refine held_load_num 0 (some 21) rfl rfl (by kernel_rfl) (by kernel_rfl) (by kernel_rfl) noPanic_put rfl _ rfl w1.heap.size rfl g k p j q (fun _ h => h.1) hp hq hS ?_
    simp only [Act.put, List.setIfInBounds_toArray, List.set_cons_zero, List.set_cons_succ]
    refine held_load_num 1 (some 22) rfl rfl (by kernel_rfl) (by kernel_rfl) (by kernel_rfl) noPanic_put rfl _ rfl w3.heap.size rfl g' k' p' j' q' (fun _ h => h.2) hp' hq' hS ?_
    simp only [Act.put, List.setIfInBounds_toArray, List.set_cons_zero, List.set_cons_succ]
    refine held_val 2 (some 23) rfl rfl (by kernel_rfl) (by kernel_rfl) (by kernel_rfl) noPanic_put rfl (.bool true) (fun _ => rfl) hS ?_
    simp only [Act.put, List.setIfInBounds_toArray, List.set_cons_zero, List.set_cons_succ]
    refine held_val 3 (some 24) rfl rfl (by kernel_rfl) (by kernel_rfl) (by kernel_rfl) noPanic_put rfl (.bool true) (fun _ => rfl) hS ?_
    simp only [Act.put, List.setIfInBounds_toArray, List.set_cons_zero, List.set_cons_succ]
    refine held_val 4 (some 25) rfl rfl (by kernel_rfl) (by kernel_rfl) (by kernel_rfl) noPanic_put rfl (.bool ob) (fun _ => rfl) hS ?_
    simp only [Act.put, List.setIfInBounds_toArray, List.set_cons_zero, List.set_cons_succ]
    refine held_val 5 (some 26) rfl rfl (by kernel_rfl) (by kernel_rfl) (by kernel_rfl) noPanic_put rfl (.bool ob) (fun _ => rfl) hS ?_
    simp only [Act.put, List.setIfInBounds_toArray, List.set_cons_zero, List.set_cons_succ]
    refine held_store_num 6 (by kernel_rfl) rfl rfl _ _ rfl rfl w.heap.size g k p j q rfl rfl false 0 zP 0 zP A4 zP_len zP_len hp hq ?_
    intro w5 hN5 hg5 hs5
    have hC5 : NumAt w5 w1.heap.size g k p j q := RowAt.grown (w := w4.drew) C4 hg5 (by simp; omega)
    have hD5 : NumAt w5 w3.heap.size g' k' p' j' q' := RowAt.grown (w := w4.drew) hN4 hg5 (by simp; omega)
    refine ⟨⟨hC5, hD5⟩, ?_⟩
    have B5 : NumAt w5 (w.heap.size + 1) false 0 zP 0 zP := RowAt.grown (w := w4.drew) B4 hg5 (by simp)
    refine held_store_num 7 (by kernel_rfl) rfl rfl _ _ rfl rfl (w.heap.size + 1) g' k' p' j' q' rfl rfl false 0 zP 0 zP B5 zP_len zP_len hp' hq' ?_
    intro w6 hN6 hg6 hs6
    have hS6 : NumAt w6 w1.heap.size g k p j q ∧ NumAt w6 w3.heap.size g' k' p' j' q' := ⟨RowAt.grown hC5 hg6 (by simp; omega), RowAt.grown hD5 hg6 (by simp; omega)⟩
    refine ⟨hS6, ?_⟩
    refine held_assign 8 (some 6) (by kernel_rfl) rfl rfl _ rfl rfl (.bool ob) rfl hS6 ?_
    simp only [Act.put, List.setIfInBounds_toArray, List.set_cons_zero, List.set_cons_succ]
    refine wpAnyH_done (by kernel_rfl) ?_ _
    refine NoPanic.normal ?_
    have M6 : NumAt w6 w.heap.size g k p j q := RowAt.grown hN5 hg6 (by simp)
    go_wp2
    refine bodyPost_ret (v := .tuple #[.agg (numC g k p j q), .agg (numC g' k' p' j' q'), .bool ob]) (res_num2_tmp Try.results12 _ _ w.heap.size (w.heap.size + 1) _ _ _ _ _ _ _ _ _ _ _ rfl rfl rfl M6 hN6 hp hq hp' hq') rfl ⟨g, g', k, j, k', j', p, q, p', q', by rw [HE.out]; rfl, HA.out, HB.out, ?_⟩
    have hB5 : Below w.heap.size w w5 := hB4.drew.grown hg5 (by have := hB4.size; simp; omega) (by intro k hk; cases hk; omega)
    exact hB5.grown hg6 (by have := hB5.size; omega) (by intro k hk; cases hk; omega)
  | false =>
    refine held_begin (fun w' => NumAt w' w1.heap.size g k p j q ∧ NumAt w' w3.heap.size g' k' p' j' q') (by kernel_rfl) ?_
    have hS : NumAt w4.drew w1.heap.size g k p j q ∧ NumAt w4.drew w3.heap.size g' k' p' j' q' := ⟨C4, hN4⟩
    refine held_load_num 0 (some 21) rfl rfl (by kernel_rfl) (by kernel_rfl) (by kernel_rfl) noPanic_put rfl _ rfl w1.heap.size rfl g k p j q (fun _ h => h.1) hp hq hS ?_
    simp only [Act.put, List.setIfInBounds_toArray, List.set_cons_zero, List.set_cons_succ]
    refine held_load_num 1 (some 22) rfl rfl (by kernel_rfl) (by kernel_rfl) (by kernel_rfl) noPanic_put rfl _ rfl w3.heap.size rfl g' k' p' j' q' (fun _ h => h.2) hp' hq' hS ?_
    simp only [Act.put, List.setIfInBounds_toArray, List.set_cons_zero, List.set_cons_succ]
    refine held_val 2 (some 23) rfl rfl (by kernel_rfl) (by kernel_rfl) (by kernel_rfl) noPanic_put rfl (.bool false) (fun _ => rfl) hS ?_
    simp only [Act.put, List.setIfInBounds_toArray, List.set_cons_zero, List.set_cons_succ]
    refine held_val 3 (some 24) rfl rfl (by kernel_rfl) (by kernel_rfl) (by kernel_rfl) noPanic_put rfl (.bool false) (fun _ => rfl) hS ?_
    simp only [Act.put, List.setIfInBounds_toArray, List.set_cons_zero, List.set_cons_succ]
    refine held_skip 4 (some 25) rfl rfl (by kernel_rfl) (by kernel_rfl) (by kernel_rfl) noPanic_put rfl hS ?_
    simp only [Act.put, List.setIfInBounds_toArray, List.set_cons_zero, List.set_cons_succ]
    refine held_val 5 (some 26) rfl rfl (by kernel_rfl) (by kernel_rfl) (by kernel_rfl) noPanic_put rfl (.bool false) (fun _ => rfl) hS ?_
    simp only [Act.put, List.setIfInBounds_toArray, List.set_cons_zero, List.set_cons_succ]
    refine held_store_num 6 (by kernel_rfl) rfl rfl _ _ rfl rfl w.heap.size g k p j q rfl rfl false 0 zP 0 zP A4 zP_len zP_len hp hq ?_
    intro w5 hN5 hg5 hs5
    have hC5 : NumAt w5 w1.heap.size g k p j q := RowAt.grown (w := w4.drew) C4 hg5 (by simp; omega)
    have hD5 : NumAt w5 w3.heap.size g' k' p' j' q' := RowAt.grown (w := w4.drew) hN4 hg5 (by simp; omega)
    refine ⟨⟨hC5, hD5⟩, ?_⟩
    have B5 : NumAt w5 (w.heap.size + 1) false 0 zP 0 zP := RowAt.grown (w := w4.drew) B4 hg5 (by simp)
    refine held_store_num 7 (by kernel_rfl) rfl rfl _ _ rfl rfl (w.heap.size + 1) g' k' p' j' q' rfl rfl false 0 zP 0 zP B5 zP_len zP_len hp' hq' ?_
    intro w6 hN6 hg6 hs6
    have hS6 : NumAt w6 w1.heap.size g k p j q ∧ NumAt w6 w3.heap.size g' k' p' j' q' := ⟨RowAt.grown hC5 hg6 (by simp; omega), RowAt.grown hD5 hg6 (by simp; omega)⟩
    refine ⟨hS6, ?_⟩
    refine held_assign 8 (some 6) (by kernel_rfl) rfl rfl _ rfl rfl (.bool false) rfl hS6 ?_
    simp only [Act.put, List.setIfInBounds_toArray, List.set_cons_zero, List.set_cons_succ]
    refine wpAnyH_done (by kernel_rfl) ?_ _
    refine NoPanic.normal ?_
    have M6 : NumAt w6 w.heap.size g k p j q := RowAt.grown hN5 hg6 (by simp)
    go_wp2
    refine bodyPost_ret (v := .tuple #[.agg (numC g k p j q), .agg (numC g' k' p' j' q'), .bool false]) (res_num2_tmp Try.results12 _ _ w.heap.size (w.heap.size + 1) _ _ _ _ _ _ _ _ _ _ _ rfl rfl rfl M6 hN6 hp hq hp' hq') rfl ⟨g, g', k, j, k', j', p, q, p', q', by rw [HE.out]; rfl, HA.out, HB.out, ?_⟩
    have hB5 : Below w.heap.size w w5 := hB4.drew.grown hg5 (by have := hB4.size; simp; omega) (by intro k hk; cases hk; omega)
    exact hB5.grown hg6 (by have := hB5.size; omega) (by intro k hk; cases hk; omega)
end Go.Proofs.Yteihephciiifbaa
