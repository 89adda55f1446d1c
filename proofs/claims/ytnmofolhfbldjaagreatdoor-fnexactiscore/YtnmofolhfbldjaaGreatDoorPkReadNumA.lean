/-
  The texts ReadNumA, ReadTerms, ReadNum, ReadNums, one behind the other.
-/
import Derived.Test.YtnmofolhfbldjaaGreatDoorPkCutNum
import Derived.Test.YtnmofolhfbldjaaGreatDoorPkFraction

/-
  What readNum of impl is made of.
-/
namespace Go.Proofs.YtnmofolhfbldjaaGreatDoor
open Go.RowKit
set_option linter.unusedVariables false

/-- What readNum should hand back. -/
def ReadN (l : List UInt8) (e : Ending) : Prop := ∃ (g : Bool) (k j : Nat) (p q : List Int), e = .returned (.tuple #[.agg (numC g k p j q), .bool (okN l)]) ∧ p.length = 204 ∧ q.length = 204 ∧ (okN l = true → g = negN l ∧ Rep (topN l) k p ∧ Rep (botN l) j q ∧ k ≤ 100 ∧ j ≤ 100 ∧ j ≠ 0)

theorem built_num0 : Tryz.prog.built 104 [] = some (numC false 0 zP 0 zP) := by kernel_rfl
theorem build_num0 {ops : Array Oper} {rest : List Oper} {o : Oper} {a : Act} {w : World} {Q : Exit → Act → World → Prop} (hg : o.guard = none) (ho : o.op = .build 104 #[]) (d : Option Tmp) (hd : o.dst = d)
    (h : wpList Tryz.prog ops Q rest (a.put d (.agg (numC false 0 zP 0 zP))) w) : wpList Tryz.prog ops Q (o :: rest) a w :=
  wpList_buildTo hg 104 #[] ho d hd (numC false 0 zP 0 zP) (by simpa using built_num0) h
theorem res_num_tmp {fn : Func} {x u : Tmp} (h : fn.results = #[.cell x 104, .tmp u]) (tmps : Array Value) (w : World) (b : Nat) (g : Bool) (n : Int) (p : List Int) (m : Int) (q : List Int) (v : Value)
    (hp : tmps.getD x undef = .pointer (some ⟨b, 0, none⟩)) (hv : tmps.getD u undef = v) (hN : NumAt w b g n p m q) (hl : p.length = 204) (hm : q.length = 204) : (results fn tmps).run Tryz.prog w = .ok (.tuple #[.agg (numC g n p m q), v]) w := by
  rw [results_cell_tmp h, hp, hv]
  simp only [asAddr, Sem.run_pure, Result.andThen, run_loadVar_row w b 104 104 (numC g n p m q) (0, 0) _ hN Tryz.underlying104 rfl (num_info g n p m q hl hm)]

theorem run_bw {o : Oper} {a : Act} {w : World} (x y : Operand) (ho : o.op = .build 102 #[(0, x), (1, y)]) (g : Bool) (u : Int) (p : List Int) (hp : p.length = 204) (hx : a.eval x = .bool g) (hy : a.eval y = .agg (natC u p)) :
    (execOp a.eval o).run Tryz.prog w = .ok (.value (.agg (wholeC g u p))) w := by
  have e : (Array.map (fun (i, x) => (i, a.eval x)) #[(0, x), (1, y)]).toList = [(0, a.eval x), (1, a.eval y)] := by simp
  have h := run_build w 102 (Array.map (fun (i, x) => (i, a.eval x)) #[(0, x), (1, y)]) (wholeC g u p) (by rw [e, hx, hy]; exact built_whole g u p hp)
  unfold execOp
  simp only [ho, Sem.run_bind, h, Result.andThen_ok]
  rfl
theorem run_bn {o : Oper} {a : Act} {w : World} (x y : Operand) (ho : o.op = .build 104 #[(0, x), (1, y)]) (g : Bool) (u : Int) (p : List Int) (v : Int) (q : List Int) (hp : p.length = 204) (hq : q.length = 204) (hx : a.eval x = .agg (wholeC g u p)) (hy : a.eval y = .agg (natC v q)) :
    (execOp a.eval o).run Tryz.prog w = .ok (.value (.agg (numC g u p v q))) w := by
  have e : (Array.map (fun (i, x) => (i, a.eval x)) #[(0, x), (1, y)]).toList = [(0, a.eval x), (1, a.eval y)] := by simp
  have h := run_build w 104 (Array.map (fun (i, x) => (i, a.eval x)) #[(0, x), (1, y)]) (numC g u p v q) (by rw [e, hx, hy]; exact built_num g u p v q hp hq)
  unfold execOp
  simp only [ho, Sem.run_bind, h, Result.andThen_ok]
  rfl
theorem run_mv {o : Oper} {a : Act} {w : World} (x : Operand) (ho : o.op = .move x) (v : Value) (hx : a.eval x = v) : (execOp a.eval o).run Tryz.prog w = .ok (.value v) w := by
  unfold execOp
  simp only [ho, hx]
  rfl
/-- The one operation that may come up: a fraction is written whole. -/
theorem held_store_num {ops : Array Oper} {Q : Exit → Act → World → Prop} {md : Region.Mode} {S : World → Prop} {o : Oper} {fuel : Nat} {listed : Array Bool} {a : Act} {w : World} (i : Nat) (hr : Region.ready md ops listed = [i]) (hi : ops[i]? = some o) (hw : Region.wanted o (yielded ops a.tmps) = true) (x y : Operand) (ho : o.op = .store 104 x y) (hd : o.dst = none)
    (b : Nat) (g : Bool) (u : Int) (p : List Int) (v : Int) (q : List Int) (hx : a.eval x = .pointer (some ⟨b, 0, none⟩)) (hy : a.eval y = .agg (numC g u p v q)) (g0 : Bool) (u0 : Int) (p0 : List Int) (v0 : Int) (q0 : List Int) (hN : NumAt w b g0 u0 p0 v0 q0) (h0 : p0.length = 204) (h0' : q0.length = 204) (hl : p.length = 204) (hm : q.length = 204)
    (h : ∀ w', NumAt w' b g u p v q → w.grownBy w' (some b) → w'.heap.size = w.heap.size → S w' ∧ wpAnyH Tryz.prog md ops Q S fuel (listed.setIfInBounds i true) a w') : wpAnyH Tryz.prog md ops Q S (fuel + 1) listed a w := by
  refine wpAnyH_ready hr (by simp) (AllReadyH.cons hi (fun K hK => ?_) AllReadyH.nil)
  rw [if_pos hw]
  refine wp_store_row 104 x y ho b (numC g u p v q) hx hy 104 (numC g0 u0 p0 v0 q0) hN (num_info g u p v q hl hm) (by rw [numC_size, numC_size, h0, hl, h0', hm]) (numC_one _ _ _ _ _) ?_
  rw [hd]
  have := h _ (setRow_heap w b _ _ _ _ hN) ⟨rfl, rfl, rfl, by simp, fun k _ hne => setRow_other w b k _ (by intro e; exact hne (by rw [e]))⟩ (by simp)
  exact hK.out _ _ this.1 (fun _ => this.2)
/-- One of two operations that may come up, a call. -/
theorem ready_call {ops : Array Oper} {Q : Exit → Act → World → Prop} {md : Region.Mode} {S : World → Prop} {o : Oper} {fuel : Nat} {listed : Array Bool} {a : Act} {w : World} {rs : List Nat} (i : Nat) (d : Option Tmp) (hi : ops[i]? = some o) (hw : Region.wanted o (yielded ops a.tmps) = true) (hd : o.dst = d) (f : FuncId) (args : Array Value)
    (he : (execOp a.eval o).run Tryz.prog w = .ok (.enter f args) w) (R : Ending → World → Prop) (hc : Calls Tryz.prog f args w R)
    (h : ∀ e w', R e w' → ∃ v, e = .returned v ∧ S w' ∧ wpAnyH Tryz.prog md ops Q S fuel (listed.setIfInBounds i true) (a.put d v) w') (hs : AllReadyH Tryz.prog md ops Q S fuel listed a w rs) : AllReadyH Tryz.prog md ops Q S fuel listed a w (i :: rs) := by
  subst hd
  refine AllReadyH.cons hi (fun K hK => ?_) hs
  rw [if_pos hw]
  unfold Oper.wp
  rw [he]
  simp only [Oper.upon]
  refine hc.mono ?_
  intro e w' hR
  obtain ⟨v, rfl, hS, hn⟩ := h e w' hR
  exact hK.out _ _ hS (fun _ => hn)
/-- One of the operations that may come up gives a value and changes the world. -/
theorem ready_val {ops : Array Oper} {Q : Exit → Act → World → Prop} {md : Region.Mode} {S : World → Prop} {o : Oper} {fuel : Nat} {listed : Array Bool} {a : Act} {w : World} {rs : List Nat} (i : Nat) (d : Option Tmp) (hi : ops[i]? = some o) (hw : Region.wanted o (yielded ops a.tmps) = true) (hd : o.dst = d) (v : Value) (w' : World)
    (he : (execOp a.eval o).run Tryz.prog w = .ok (.value v) w') (hS : S w') (h : wpAnyH Tryz.prog md ops Q S fuel (listed.setIfInBounds i true) (a.put d v) w') (hs : AllReadyH Tryz.prog md ops Q S fuel listed a w rs) : AllReadyH Tryz.prog md ops Q S fuel listed a w (i :: rs) := by
  subst hd
  refine AllReadyH.cons hi (fun K hK => ?_) hs
  rw [if_pos hw]
  unfold Oper.wp
  rw [he]
  exact hK.out _ _ hS (fun _ => h)


theorem put_ne (a : Act) (i j : Nat) (v : Value) (h : i ≠ j) : (a.put (some i) v).eval (.tmp j) = a.eval (.tmp j) := by
  simp [Act.put, Act.eval, Array.getD_eq_getD_getElem?, Array.getElem?_setIfInBounds_ne h]
theorem put_eq (a : Act) (i : Nat) (v : Value) (h : i < a.tmps.size) : (a.put (some i) v).eval (.tmp i) = v := by
  simp [Act.put, Act.eval, Array.getD_eq_getD_getElem?, h]
theorem put_size (a : Act) (i : Nat) (v : Value) : (a.put (some i) v).tmps.size = a.tmps.size := by simp [Act.put]
theorem put_comm (a : Act) (i j : Nat) (u v : Value) (h : i ≠ j) : (a.put (some i) u).put (some j) v = (a.put (some j) v).put (some i) u := by
  simp only [Act.put]
  congr 1
  exact Array.setIfInBounds_comm u v h

/-- A fraction is made of a whole number and 1, in either order of the call and the new variable. -/
theorem region_make {id : Nat} {Q : Exit → Act → World → Prop} {a : Act} {w4 : World} (ps : String) (g : Bool) (k : Nat) (p : List Int) (hp : p.length = 204) (B3 BR : Nat) (hx : a.eval (.tmp 4) = .bool g) (hy : a.eval (.tmp 8) = .pointer (some ⟨B3, 0, none⟩)) (hsz : 43 ≤ a.tmps.size)
    (hz2 : ∀ w, (zeroValue 104).run Tryz.prog w = .ok (.agg (numC false 0 zP 0 zP)) w) (hN4 : NatAt w4 B3 k p) (A4 : NumAt w4 BR false 0 zP 0 zP)
    (h : ∀ (b0 i : Nat) (r : List Int) (w7 : World), NumAt w7 b0 g k p i r → NatAt w7 B3 k p → NumAt w7 BR false 0 zP 0 zP → Rep 1 i r → w4.heap.size ≤ b0 → b0 < w7.heap.size → Below w4.heap.size w4 w7 →
      Q .normal ((((((a.put (some 38) (.bool g)).put (some 39) (.agg (natC k p))).put (some 40) (.agg (wholeC g k p))).put (some 41) (.agg (natC i r))).put (some 42) (.agg (numC g k p i r))).put (some 10) (.pointer (some ⟨b0, 0, none⟩))) w7) :
    (Code.region id #[{ dst := some 38, op := Op.move (Operand.tmp 4), type := 4, pos := ps, after := #[], guard := none }, { dst := some 39, op := Op.load 97 (Operand.tmp 8), type := 97, pos := ps, after := #[], guard := none }, { dst := some 40, op := Op.build 102 #[(0, Operand.tmp 38), (1, Operand.tmp 39)], type := 102, pos := ps, after := #[{ on := 0, ground := Ground.data }, { on := 1, ground := Ground.data }], guard := none }, { dst := some 41, op := Op.call { callee := Callee.value (Operand.func 102), args := #[Operand.const (Value.int IntKind.i64 1)], argTypes := #[3] }, type := 97, pos := ps, after := #[], guard := none }, { dst := some 42, op := Op.build 104 #[(0, Operand.tmp 40), (1, Operand.tmp 41)], type := 104, pos := ps, after := #[{ on := 2, ground := Ground.data }, { on := 3, ground := Ground.data }], guard := none }, { dst := some 10, op := Op.alloc 104, type := 0, pos := ps, after := #[], guard := none }, { dst := none, op := Op.store 104 (Operand.tmp 10) (Operand.tmp 42), type := 0, pos := ps, after := #[{ on := 5, ground := Ground.data }, { on := 4, ground := Ground.data }, { on := 3, ground := Ground.chain }, { on := 0, ground := Ground.phase }, { on := 1, ground := Ground.phase }, { on := 2, ground := Ground.phase }, { on := 3, ground := Ground.phase }, { on := 4, ground := Ground.phase }, { on := 5, ground := Ground.phase }], guard := none }] true).wp Tryz.prog Q a w4 := by
  have l3 := hN4.lt
  have lR := RowAt.lt A4
  refine held_begin (fun w' => NatAt w' B3 k p ∧ NumAt w' BR false 0 zP 0 zP) (by kernel_rfl) ?_
  have hS : NatAt w4.drew B3 k p ∧ NumAt w4.drew BR false 0 zP 0 zP := ⟨hN4, A4⟩
  refine held_val 0 (some 38) rfl rfl (by kernel_rfl) (by kernel_rfl) (by kernel_rfl) noPanic_put rfl (.bool g) (fun _ => run_mv (.tmp 4) rfl _ hx) hS ?_
  refine held_load 1 (some 39) rfl rfl (by kernel_rfl) (by kernel_rfl) (by kernel_rfl) noPanic_put rfl _ rfl B3 (by rw [put_ne _ _ _ _ (by decide)]; exact hy) k p (fun _ h => h.1) hp hS ?_
  refine held_val 2 (some 40) rfl rfl (by kernel_rfl) (by kernel_rfl) (by kernel_rfl) noPanic_put rfl (.agg (wholeC g k p)) (fun _ => run_bw (.tmp 38) (.tmp 39) rfl g k p hp (by rw [put_ne _ _ _ _ (by decide), put_eq _ _ _ (by omega)]) (by rw [put_eq _ _ _ (by rw [put_size]; omega)])) hS ?_
  refine wpAnyH_ready (rs := [3, 5]) (by kernel_rfl) (by simp) ?_
  refine ready_call 3 (some 41) rfl rfl rfl 102 #[.int .i64 1] (by go_simp) _ (natOf_any 1 1 w4.drew rfl (by omega) (by omega)) ?_ (ready_val 5 (some 10) rfl rfl rfl (.pointer (some ⟨w4.heap.size, 0, none⟩)) (w4.drew.alloc (.cells (numC false 0 zP 0 zP) 104)) (by go_simp) ?_ ?_ AllReadyH.nil)
  · rintro e w5 ⟨i, r, rfl, hR, hW5⟩
    have hW5 : Below w4.heap.size w4 w5 := ⟨hW5.os, hW5.tape, hW5.output, hW5.size, hW5.block⟩
    have hr := hR.len
    have hs5 := hW5.size
    have hS5 : NatAt w5 B3 k p ∧ NumAt w5 BR false 0 zP 0 zP := ⟨hN4.below hW5 (by omega), RowAt.below A4 hW5 (by omega)⟩
    refine ⟨_, rfl, hS5, ?_⟩
    refine held_val 4 (some 42) rfl rfl (by kernel_rfl) (by kernel_rfl) (by kernel_rfl) noPanic_put rfl (.agg (numC g k p i r)) (fun _ => run_bn (.tmp 40) (.tmp 41) rfl g k p i r hp hr (by rw [put_ne _ _ _ _ (by decide), put_eq _ _ _ (by simp only [put_size]; omega)]) (by rw [put_eq _ _ _ (by simp only [put_size]; omega)])) hS5 ?_
    refine wpAnyH_ready (rs := [5]) (by kernel_rfl) (by simp) ?_
    have hS6 : NatAt (w5.alloc (.cells (numC false 0 zP 0 zP) 104)) B3 k p ∧ NumAt (w5.alloc (.cells (numC false 0 zP 0 zP) 104)) BR false 0 zP 0 zP := ⟨hS5.1.old _, RowAt.old hS5.2 _⟩
    refine ready_val 5 (some 10) rfl rfl rfl (.pointer (some ⟨w5.heap.size, 0, none⟩)) (w5.alloc (.cells (numC false 0 zP 0 zP) 104)) (by go_simp) hS6 ?_ AllReadyH.nil
    refine held_store_num 6 (by kernel_rfl) rfl rfl (.tmp 10) (.tmp 42) rfl rfl w5.heap.size g k p i r (by rw [put_eq _ _ _ (by simp only [put_size]; omega)]) (by rw [put_ne _ _ _ _ (by decide), put_eq _ _ _ (by simp only [put_size]; omega)]) false 0 zP 0 zP (NumAt.new w5 false 0 zP 0 zP) zP_len zP_len hp hr ?_
    intro w7 hN7 hg7 hs7
    have N7 : NatAt w7 B3 k p := hS6.1.grown hg7 (by simp; omega)
    have A7 : NumAt w7 BR false 0 zP 0 zP := RowAt.grown hS6.2 hg7 (by simp; omega)
    refine ⟨⟨N7, A7⟩, ?_⟩
    refine wpAnyH_done (by kernel_rfl) ?_ _
    refine NoPanic.normal ?_
    exact h w5.heap.size i r w7 hN7 N7 A7 hR hs5 (by rw [hs7]; simp) ((hW5.alloc hs5 _).grown hg7 (by simp; omega) (by intro k hk; cases hk; omega))
  · exact ⟨hN4.old _, RowAt.old A4 _⟩
  · have hS5 : NatAt (w4.drew.alloc (.cells (numC false 0 zP 0 zP) 104)) B3 k p ∧ NumAt (w4.drew.alloc (.cells (numC false 0 zP 0 zP) 104)) BR false 0 zP 0 zP := ⟨hN4.old _, RowAt.old A4 _⟩
    have M5 : NumAt (w4.drew.alloc (.cells (numC false 0 zP 0 zP) 104)) w4.heap.size false 0 zP 0 zP := NumAt.new w4.drew false 0 zP 0 zP
    refine held_call 3 (some 41) (by kernel_rfl) rfl rfl rfl 102 #[.int .i64 1] (by go_simp) _ (natOf_any 1 1 _ rfl (by omega) (by omega)) ?_
    rintro e w6 ⟨i, r, rfl, hR, hW6⟩
    have hr := hR.len
    have hs6 := hW6.size
    have hsz' : (w4.drew.alloc (.cells (numC false 0 zP 0 zP) 104)).heap.size = w4.heap.size + 1 := by simp
    have hS6 : NatAt w6 B3 k p ∧ NumAt w6 BR false 0 zP 0 zP := ⟨hS5.1.below hW6 (by omega), RowAt.below hS5.2 hW6 (by omega)⟩
    have M6 : NumAt w6 w4.heap.size false 0 zP 0 zP := RowAt.below M5 hW6 (by omega)
    have hB6 : Below w4.heap.size w4 w6 := (((Below.refl w4.heap.size w4).drew).alloc (Nat.le_refl _) _).trans (hW6.mono (by omega))
    refine ⟨_, rfl, hS6, ?_⟩
    refine held_val 4 (some 42) rfl rfl (by kernel_rfl) (by kernel_rfl) (by kernel_rfl) noPanic_put rfl (.agg (numC g k p i r)) (fun _ => run_bn (.tmp 40) (.tmp 41) rfl g k p i r hp hr (by rw [put_ne _ _ _ _ (by decide), put_ne _ _ _ _ (by decide), put_eq _ _ _ (by simp only [put_size]; omega)]) (by rw [put_eq _ _ _ (by simp only [put_size]; omega)])) hS6 ?_
    refine held_store_num 6 (by kernel_rfl) rfl rfl (.tmp 10) (.tmp 42) rfl rfl w4.heap.size g k p i r (by rw [put_ne _ _ _ _ (by decide), put_ne _ _ _ _ (by decide), put_eq _ _ _ (by simp only [put_size]; omega)]) (by rw [put_eq _ _ _ (by simp only [put_size]; omega)]) false 0 zP 0 zP M6 zP_len zP_len hp hr ?_
    intro w7 hN7 hg7 hs7
    have N7 : NatAt w7 B3 k p := hS6.1.grown hg7 (by simp; omega)
    have A7 : NumAt w7 BR false 0 zP 0 zP := RowAt.grown hS6.2 hg7 (by simp; omega)
    refine ⟨⟨N7, A7⟩, ?_⟩
    refine wpAnyH_done (by kernel_rfl) ?_ _
    refine NoPanic.normal ?_
    have := h w4.heap.size i r w7 hN7 N7 A7 hR (Nat.le_refl _) (by omega) (hB6.grown hg7 (by omega) (by intro k hk; cases hk; omega))
    rw [put_comm _ 42 10 _ _ (by decide), put_comm _ 41 10 _ _ (by decide)] at this
    exact this
end Go.Proofs.YtnmofolhfbldjaaGreatDoor

/-
  What readTerms of impl answers.
-/
namespace Go.Proofs.YtnmofolhfbldjaaGreatDoor
open Go.RowKit
set_option linter.unusedVariables false

/-- Is it a number but for lowest terms? -/
def okT (l : List UInt8) : Bool := (goodB (overN l) && !(negN l && decide (dval (overN l) = 0))) && (!brokenN l || (goodB (underN l) && (decide (dval (underN l) ≠ 0) && decide (dval (underN l) ≠ 1))))
/-- What readTerms should hand back. -/
def ReadT (l : List UInt8) (e : Ending) : Prop := ∃ (g : Bool) (k j : Nat) (p q : List Int), e = .returned (.tuple #[.agg (numC g k p j q), .bool (okT l)]) ∧ p.length = 204 ∧ q.length = 204 ∧ (okT l = true → g = negN l ∧ Rep (topN l) k p ∧ Rep (botN l) j q ∧ k ≤ 100 ∧ j ≤ 100 ∧ j ≠ 0)

theorem okN_eq (l : List UInt8) : okN l = (okT l && (decide (botN l = 1) || decide (Nat.gcd (topN l) (botN l) = 1))) := by
  unfold okN okT botN topN
  cases brokenN l with
  | false => simp
  | true =>
    simp only [Bool.not_true, Bool.false_or, if_true]
    by_cases h1 : dval (underN l) = 1
    · simp [h1]
    · by_cases h0 : dval (underN l) = 0
      · simp [h0]
      · simp [h0, h1, Bool.and_assoc]

theorem run_row_num {o : Oper} {a : Act} {w : World} (x : Operand) (ho : o.op = .load 104 x) (b : Nat) (hx : a.eval x = .pointer (some ⟨b, 0, none⟩)) (g : Bool) (u : Int) (p : List Int) (v : Int) (q : List Int) (hN : NumAt w b g u p v q) (hl : p.length = 204) (hm : q.length = 204) :
    (execOp a.eval o).run Tryz.prog w = .ok (.value (.agg (numC g u p v q))) w := by
  unfold execOp
  simp only [ho, hx, Instr.loadAt, Instr.sureAddr, Sem.run_bind, Sem.run_pure, Result.andThen_ok, run_loadVar_row w b 104 104 (numC g u p v q) (0, 0) _ hN Tryz.underlying104 rfl (num_info g u p v q hl hm)]

theorem one_lt' (k : Nat) (hk : k ≠ 0) : 1 < 10 ^ k := Nat.one_lt_pow hk (by decide)
theorem good_lt' {l : List UInt8} (h : goodB l = true) : dval l < 10 ^ 600 := (canon_len_le (good_canon h) 600 (by omega)).1 (good_len h)

end Go.Proofs.YtnmofolhfbldjaaGreatDoor

/-
  What readNum of impl answers.
-/
namespace Go.Proofs.YtnmofolhfbldjaaGreatDoor
open Go.RowKit
set_option linter.unusedVariables false

/-- The goal is a list's walk, and nothing else. -/
theorem wpList_id {ops : Array Oper} {rest : List Oper} {o : Oper} {a : Act} {w : World} {Q : Exit → Act → World → Prop} (h : wpList Tryz.prog ops Q (o :: rest) a w) : wpList Tryz.prog ops Q (o :: rest) a w := h

end Go.Proofs.YtnmofolhfbldjaaGreatDoor

/-
  What impl.readNums answers: two texts as fractions.
-/
namespace Go.Proofs.YtnmofolhfbldjaaGreatDoor
open Go.RowKit
set_option linter.unusedVariables false

/-- A fraction is read whole, ahead of all else. -/
theorem held_load_num {ops : Array Oper} {Q : Exit → Act → World → Prop} {md : Region.Mode} {S : World → Prop} {o : Oper} {fuel : Nat} {listed : Array Bool} {a : Act} {w : World} (i : Nat) (d : Option Tmp) (hi : ops[i]? = some o) (hd : o.dst = d) (hs : Region.noSelect ops = true) (hf : Region.free md ops listed i = true) (hr : (Region.ready md ops listed).contains i = true)
    (hQ : ∀ c a d v w, Q (.panic c) (Act.put a d v) w → Q (.panic c) a w) (hw : Region.wanted o (yielded ops a.tmps) = true) (x : Operand) (ho : o.op = .load 104 x)
    (b : Nat) (hx : a.eval x = .pointer (some ⟨b, 0, none⟩)) (g : Bool) (u : Int) (p : List Int) (v : Int) (q : List Int) (hN : ∀ w, S w → NumAt w b g u p v q) (hl : p.length = 204) (hm : q.length = 204) (hS : S w)
    (h : wpAnyH Tryz.prog md ops Q S fuel (listed.setIfInBounds i true) (a.put d (.agg (numC g u p v q))) w) : wpAnyH Tryz.prog md ops Q S (fuel + 1) listed a w := by
  subst hd
  exact wpAnyH_take hi hs hf hr (fun c a w => hQ c a _ _ w) (.inl ⟨hw, fun w hw' => by
    unfold execOp
    simp only [ho, hx, Instr.loadAt, Instr.sureAddr, Sem.run_bind, Sem.run_pure, Result.andThen_ok, run_loadVar_row w b 104 104 (numC g u p v q) (0, 0) _ (hN w hw') Tryz.underlying104 rfl (num_info g u p v q hl hm)]⟩) hS h

theorem res_num2_tmp {fn : Func} {x y u : Tmp} (h : fn.results = #[.cell x 104, .cell y 104, .tmp u]) (tmps : Array Value) (w : World) (b c : Nat) (g g' : Bool) (n m n' m' : Int) (p q p' q' : List Int) (v : Value)
    (hx : tmps.getD x undef = .pointer (some ⟨b, 0, none⟩)) (hy : tmps.getD y undef = .pointer (some ⟨c, 0, none⟩)) (hv : tmps.getD u undef = v) (hN : NumAt w b g n p m q) (hM : NumAt w c g' n' p' m' q') (hl : p.length = 204) (hm : q.length = 204) (hl' : p'.length = 204) (hm' : q'.length = 204) :
    (results fn tmps).run Tryz.prog w = .ok (.tuple #[.agg (numC g n p m q), .agg (numC g' n' p' m' q'), v]) w := by
  have e1 := run_loadVar_row w b 104 104 (numC g n p m q) (0, 0) _ hN Tryz.underlying104 rfl (num_info g n p m q hl hm)
  have e2 := run_loadVar_row w c 104 104 (numC g' n' p' m' q') (0, 0) _ hM Tryz.underlying104 rfl (num_info g' n' p' m' q' hl' hm')
  have hx' : tmps[x]?.getD undef = .pointer (some ⟨b, 0, none⟩) := by simpa using hx
  have hy' : tmps[y]?.getD undef = .pointer (some ⟨c, 0, none⟩) := by simpa using hy
  have hv' : tmps[u]?.getD undef = v := by simpa using hv
  simp [results, h, hx', hy', hv', asAddr, e1, e2]

/-- What is read of a text. -/
def OneN (l : List UInt8) (g : Bool) (k j : Nat) (p q : List Int) : Prop := p.length = 204 ∧ q.length = 204 ∧ (okN l = true → g = negN l ∧ Rep (topN l) k p ∧ Rep (botN l) j q ∧ k ≤ 100 ∧ j ≤ 100 ∧ j ≠ 0)

end Go.Proofs.YtnmofolhfbldjaaGreatDoor
