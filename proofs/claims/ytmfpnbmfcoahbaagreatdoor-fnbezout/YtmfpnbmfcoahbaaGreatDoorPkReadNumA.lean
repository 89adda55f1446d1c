/-
  The texts ReadNumA, ReadTerms, ReadNum, ReadNums, one behind the other.
-/
import Derived.Test.YtmfpnbmfcoahbaaGreatDoorPkCutNum
import Derived.Test.YtmfpnbmfcoahbaaGreatDoorPkFraction

/-
  What readNum of impl is made of.
-/
namespace Go.Proofs.YtmfpnbmfcoahbaaGreatDoor
open Go.RowKit
set_option linter.unusedVariables false

/-- What readNum should hand back. -/
def ReadN (l : List UInt8) (e : Ending) : Prop := ∃ (g : Bool) (k j : Nat) (p q : List Int), e = .returned (.tuple #[.agg (numC g k p j q), .bool (okN l)]) ∧ p.length = 204 ∧ q.length = 204 ∧ (okN l = true → g = negN l ∧ Rep (topN l) k p ∧ Rep (botN l) j q ∧ k ≤ 100 ∧ j ≤ 100 ∧ j ≠ 0)

theorem built_num0 : Tryz.prog.built 48 [] = some (numC false 0 zP 0 zP) := by kernel_rfl
theorem build_num0 {ops : Array Oper} {rest : List Oper} {o : Oper} {a : Act} {w : World} {Q : Exit → Act → World → Prop} (hg : o.guard = none) (ho : o.op = .build 48 #[]) (d : Option Tmp) (hd : o.dst = d)
    (h : wpList Tryz.prog ops Q rest (a.put d (.agg (numC false 0 zP 0 zP))) w) : wpList Tryz.prog ops Q (o :: rest) a w :=
  wpList_buildTo hg 48 #[] ho d hd (numC false 0 zP 0 zP) (by simpa using built_num0) h
theorem res_num_tmp {fn : Func} {x u : Tmp} (h : fn.results = #[.cell x 48, .tmp u]) (tmps : Array Value) (w : World) (b : Nat) (g : Bool) (n : Int) (p : List Int) (m : Int) (q : List Int) (v : Value)
    (hp : tmps.getD x undef = .pointer (some ⟨b, 0, none⟩)) (hv : tmps.getD u undef = v) (hN : NumAt w b g n p m q) (hl : p.length = 204) (hm : q.length = 204) : (results fn tmps).run Tryz.prog w = .ok (.tuple #[.agg (numC g n p m q), v]) w := by
  rw [results_cell_tmp h, hp, hv]
  simp only [asAddr, Sem.run_pure, Result.andThen, run_loadVar_row w b 48 48 (numC g n p m q) (0, 0) _ hN Tryz.underlying48 rfl (num_info g n p m q hl hm)]

theorem run_bw {o : Oper} {a : Act} {w : World} (x y : Operand) (ho : o.op = .build 36 #[(0, x), (1, y)]) (g : Bool) (u : Int) (p : List Int) (hp : p.length = 204) (hx : a.eval x = .bool g) (hy : a.eval y = .agg (natC u p)) :
    (execOp a.eval o).run Tryz.prog w = .ok (.value (.agg (wholeC g u p))) w := by
  have e : (Array.map (fun (i, x) => (i, a.eval x)) #[(0, x), (1, y)]).toList = [(0, a.eval x), (1, a.eval y)] := by simp
  have h := run_build w 36 (Array.map (fun (i, x) => (i, a.eval x)) #[(0, x), (1, y)]) (wholeC g u p) (by rw [e, hx, hy]; exact built_whole g u p hp)
  unfold execOp
  simp only [ho, Sem.run_bind, h, Result.andThen_ok]
  rfl
theorem run_bn {o : Oper} {a : Act} {w : World} (x y : Operand) (ho : o.op = .build 48 #[(0, x), (1, y)]) (g : Bool) (u : Int) (p : List Int) (v : Int) (q : List Int) (hp : p.length = 204) (hq : q.length = 204) (hx : a.eval x = .agg (wholeC g u p)) (hy : a.eval y = .agg (natC v q)) :
    (execOp a.eval o).run Tryz.prog w = .ok (.value (.agg (numC g u p v q))) w := by
  have e : (Array.map (fun (i, x) => (i, a.eval x)) #[(0, x), (1, y)]).toList = [(0, a.eval x), (1, a.eval y)] := by simp
  have h := run_build w 48 (Array.map (fun (i, x) => (i, a.eval x)) #[(0, x), (1, y)]) (numC g u p v q) (by rw [e, hx, hy]; exact built_num g u p v q hp hq)
  unfold execOp
  simp only [ho, Sem.run_bind, h, Result.andThen_ok]
  rfl
theorem run_mv {o : Oper} {a : Act} {w : World} (x : Operand) (ho : o.op = .move x) (v : Value) (hx : a.eval x = v) : (execOp a.eval o).run Tryz.prog w = .ok (.value v) w := by
  unfold execOp
  simp only [ho, hx]
  rfl
/-- The one operation that may come up: a fraction is written whole. -/
theorem held_store_num {ops : Array Oper} {Q : Exit → Act → World → Prop} {md : Region.Mode} {S : World → Prop} {o : Oper} {fuel : Nat} {listed : Array Bool} {a : Act} {w : World} (i : Nat) (hr : Region.ready md ops listed = [i]) (hi : ops[i]? = some o) (hw : Region.wanted o (yielded ops a.tmps) = true) (x y : Operand) (ho : o.op = .store 48 x y) (hd : o.dst = none)
    (b : Nat) (g : Bool) (u : Int) (p : List Int) (v : Int) (q : List Int) (hx : a.eval x = .pointer (some ⟨b, 0, none⟩)) (hy : a.eval y = .agg (numC g u p v q)) (g0 : Bool) (u0 : Int) (p0 : List Int) (v0 : Int) (q0 : List Int) (hN : NumAt w b g0 u0 p0 v0 q0) (h0 : p0.length = 204) (h0' : q0.length = 204) (hl : p.length = 204) (hm : q.length = 204)
    (h : ∀ w', NumAt w' b g u p v q → w.grownBy w' (some b) → w'.heap.size = w.heap.size → S w' ∧ wpAnyH Tryz.prog md ops Q S fuel (listed.setIfInBounds i true) a w') : wpAnyH Tryz.prog md ops Q S (fuel + 1) listed a w := by
  refine wpAnyH_ready hr (by simp) (AllReadyH.cons hi (fun K hK => ?_) AllReadyH.nil)
  rw [if_pos hw]
  refine wp_store_row 48 x y ho b (numC g u p v q) hx hy 48 (numC g0 u0 p0 v0 q0) hN (num_info g u p v q hl hm) (by rw [numC_size, numC_size, h0, hl, h0', hm]) (numC_one _ _ _ _ _) ?_
  rw [hd]
  have := h _ (setRow_heap w b _ _ _ _ hN) ⟨rfl, rfl, rfl, by simp, fun k _ hne => setRow_other w b k _ (by intro e; exact hne (by rw [e]))⟩ (by simp)
  exact hK.out _ _ this.1 (fun _ => this.2)
/-- One of two operations that may come up, a call. -/
theorem ready_call {ops : Array Oper} {Q : Exit → Act → World → Prop} {md : Region.Mode} {S : World → Prop} {o : Oper} {fuel : Nat} {listed : Array Bool} {a : Act} {w : World} {rs : List Nat} (i : Nat) (d : Option Tmp) (hi : ops[i]? = some o) (hw : Region.wanted o (yielded ops a.tmps) = true) (hd : o.dst = d) (f : FuncId) (args : Array Value)
    (he : (execOp a.eval o).run Tryz.prog w = .ok (.enter f args) w) (R : Ending → World → Prop) (hc : Calls Tryz.prog f args w R)
    (h : ∀ e w', R e w' → ∃ v, e = .returned v ∧ S w' ∧ wpAnyH Tryz.prog md ops Q S fuel (listed.setIfInBounds i true) (a.put d v) w') (hs : AllReadyH Tryz.prog md ops Q S fuel listed a w rs) : AllReadyH Tryz.prog md ops Q S fuel listed a w (i :: rs) := by
  subst hd
  refine AllReadyH.cons hi (fun K hK => ?_) hs
  rw [if_pos hw]
  unfold Oper.wp
  rw [he]
  simp only [Oper.upon]
  refine hc.mono ?_
  intro e w' hR
  obtain ⟨v, rfl, hS, hn⟩ := h e w' hR
  exact hK.out _ _ hS (fun _ => hn)
/-- One of the operations that may come up gives a value and changes the world. -/
theorem ready_val {ops : Array Oper} {Q : Exit → Act → World → Prop} {md : Region.Mode} {S : World → Prop} {o : Oper} {fuel : Nat} {listed : Array Bool} {a : Act} {w : World} {rs : List Nat} (i : Nat) (d : Option Tmp) (hi : ops[i]? = some o) (hw : Region.wanted o (yielded ops a.tmps) = true) (hd : o.dst = d) (v : Value) (w' : World)
    (he : (execOp a.eval o).run Tryz.prog w = .ok (.value v) w') (hS : S w') (h : wpAnyH Tryz.prog md ops Q S fuel (listed.setIfInBounds i true) (a.put d v) w') (hs : AllReadyH Tryz.prog md ops Q S fuel listed a w rs) : AllReadyH Tryz.prog md ops Q S fuel listed a w (i :: rs) := by
  subst hd
  refine AllReadyH.cons hi (fun K hK => ?_) hs
  rw [if_pos hw]
  unfold Oper.wp
  rw [he]
  exact hK.out _ _ hS (fun _ => h)


theorem put_ne (a : Act) (i j : Nat) (v : Value) (h : i ≠ j) : (a.put (some i) v).eval (.tmp j) = a.eval (.tmp j) := by
  simp [Act.put, Act.eval, Array.getD_eq_getD_getElem?, Array.getElem?_setIfInBounds_ne h]
theorem put_eq (a : Act) (i : Nat) (v : Value) (h : i < a.tmps.size) : (a.put (some i) v).eval (.tmp i) = v := by
  simp [Act.put, Act.eval, Array.getD_eq_getD_getElem?, h]
theorem put_size (a : Act) (i : Nat) (v : Value) : (a.put (some i) v).tmps.size = a.tmps.size := by simp [Act.put]
theorem put_comm (a : Act) (i j : Nat) (u v : Value) (h : i ≠ j) : (a.put (some i) u).put (some j) v = (a.put (some j) v).put (some i) u := by
  simp only [Act.put]
  congr 1
  exact Array.setIfInBounds_comm u v h

/-- A fraction is made of a whole number and 1, in either order of the call and the new variable. -/
theorem region_make {id : Nat} {Q : Exit → Act → World → Prop} {a : Act} {w4 : World} (ps : String) (g : Bool) (k : Nat) (p : List Int) (hp : p.length = 204) (B3 BR : Nat) (hx : a.eval (.tmp 4) = .bool g) (hy : a.eval (.tmp 8) = .pointer (some ⟨B3, 0, none⟩)) (hsz : 43 ≤ a.tmps.size)
    (hz2 : ∀ w, (zeroValue 48).run Tryz.prog w = .ok (.agg (numC false 0 zP 0 zP)) w) (hN4 : NatAt w4 B3 k p) (A4 : NumAt w4 BR false 0 zP 0 zP)
    (h : ∀ (b0 i : Nat) (r : List Int) (w7 : World), NumAt w7 b0 g k p i r → NatAt w7 B3 k p → NumAt w7 BR false 0 zP 0 zP → Rep 1 i r → w4.heap.size ≤ b0 → b0 < w7.heap.size → Below w4.heap.size w4 w7 →
      Q .normal ((((((a.put (some 38) (.bool g)).put (some 39) (.agg (natC k p))).put (some 40) (.agg (wholeC g k p))).put (some 41) (.agg (natC i r))).put (some 42) (.agg (numC g k p i r))).put (some 10) (.pointer (some ⟨b0, 0, none⟩))) w7) :
    (Code.region id #[{ dst := some 38, op := Op.move (Operand.tmp 4), type := 4, pos := ps, after := #[], guard := none }, { dst := some 39, op := Op.load 32 (Operand.tmp 8), type := 32, pos := ps, after := #[], guard := none }, { dst := some 40, op := Op.build 36 #[(0, Operand.tmp 38), (1, Operand.tmp 39)], type := 36, pos := ps, after := #[{ on := 0, ground := Ground.data }, { on := 1, ground := Ground.data }], guard := none }, { dst := some 41, op := Op.call { callee := Callee.value (Operand.func 39), args := #[Operand.const (Value.int IntKind.i64 1)], argTypes := #[3] }, type := 32, pos := ps, after := #[], guard := none }, { dst := some 42, op := Op.build 48 #[(0, Operand.tmp 40), (1, Operand.tmp 41)], type := 48, pos := ps, after := #[{ on := 2, ground := Ground.data }, { on := 3, ground := Ground.data }], guard := none }, { dst := some 10, op := Op.alloc 48, type := 0, pos := ps, after := #[], guard := none }, { dst := none, op := Op.store 48 (Operand.tmp 10) (Operand.tmp 42), type := 0, pos := ps, after := #[{ on := 5, ground := Ground.data }, { on := 4, ground := Ground.data }, { on := 3, ground := Ground.chain }, { on := 0, ground := Ground.phase }, { on := 1, ground := Ground.phase }, { on := 2, ground := Ground.phase }, { on := 3, ground := Ground.phase }, { on := 4, ground := Ground.phase }, { on := 5, ground := Ground.phase }], guard := none }] true).wp Tryz.prog Q a w4 := by
  have l3 := hN4.lt
  have lR := RowAt.lt A4
  refine held_begin (fun w' => NatAt w' B3 k p ∧ NumAt w' BR false 0 zP 0 zP) (by kernel_rfl) ?_
  have hS : NatAt w4.drew B3 k p ∧ NumAt w4.drew BR false 0 zP 0 zP := ⟨hN4, A4⟩
  refine held_val 0 (some 38) rfl rfl (by kernel_rfl) (by kernel_rfl) (by kernel_rfl) noPanic_put rfl (.bool g) (fun _ => run_mv (.tmp 4) rfl _ hx) hS ?_
  refine held_load 1 (some 39) rfl rfl (by kernel_rfl) (by kernel_rfl) (by kernel_rfl) noPanic_put rfl _ rfl B3 (by rw [put_ne _ _ _ _ (by decide)]; exact hy) k p (fun _ h => h.1) hp hS ?_
  refine held_val 2 (some 40) rfl rfl (by kernel_rfl) (by kernel_rfl) (by kernel_rfl) noPanic_put rfl (.agg (wholeC g k p)) (fun _ => run_bw (.tmp 38) (.tmp 39) rfl g k p hp (by rw [put_ne _ _ _ _ (by decide), put_eq _ _ _ (by omega)]) (by rw [put_eq _ _ _ (by rw [put_size]; omega)])) hS ?_
  refine wpAnyH_ready (rs := [3, 5]) (by kernel_rfl) (by simp) ?_
  refine ready_call 3 (some 41) rfl rfl rfl 39 #[.int .i64 1] (by go_simp) _ (natOf_any 1 1 w4.drew rfl (by omega) (by omega)) ?_ (ready_val 5 (some 10) rfl rfl rfl (.pointer (some ⟨w4.heap.size, 0, none⟩)) (w4.drew.alloc (.cells (numC false 0 zP 0 zP) 48)) (by go_simp) ?_ ?_ AllReadyH.nil)
  · rintro e w5 ⟨i, r, rfl, hR, hW5⟩
    have hW5 : Below w4.heap.size w4 w5 := ⟨hW5.os, hW5.tape, hW5.output, hW5.size, hW5.block⟩
    have hr := hR.len
    have hs5 := hW5.size
    have hS5 : NatAt w5 B3 k p ∧ NumAt w5 BR false 0 zP 0 zP := ⟨hN4.below hW5 (by omega), RowAt.below A4 hW5 (by omega)⟩
    refine ⟨_, rfl, hS5, ?_⟩
    refine held_val 4 (some 42) rfl rfl (by kernel_rfl) (by kernel_rfl) (by kernel_rfl) noPanic_put rfl (.agg (numC g k p i r)) (fun _ => run_bn (.tmp 40) (.tmp 41) rfl g k p i r hp hr (by rw [put_ne _ _ _ _ (by decide), put_eq _ _ _ (by simp only [put_size]; omega)]) (by rw [put_eq _ _ _ (by simp only [put_size]; omega)])) hS5 ?_
    refine wpAnyH_ready (rs := [5]) (by kernel_rfl) (by simp) ?_
    have hS6 : NatAt (w5.alloc (.cells (numC false 0 zP 0 zP) 48)) B3 k p ∧ NumAt (w5.alloc (.cells (numC false 0 zP 0 zP) 48)) BR false 0 zP 0 zP := ⟨hS5.1.old _, RowAt.old hS5.2 _⟩
    refine ready_val 5 (some 10) rfl rfl rfl (.pointer (some ⟨w5.heap.size, 0, none⟩)) (w5.alloc (.cells (numC false 0 zP 0 zP) 48)) (by go_simp) hS6 ?_ AllReadyH.nil
    refine held_store_num 6 (by kernel_rfl) rfl rfl (.tmp 10) (.tmp 42) rfl rfl w5.heap.size g k p i r (by rw [put_eq _ _ _ (by simp only [put_size]; omega)]) (by rw [put_ne _ _ _ _ (by decide), put_eq _ _ _ (by simp only [put_size]; omega)]) false 0 zP 0 zP (NumAt.new w5 false 0 zP 0 zP) zP_len zP_len hp hr ?_
    intro w7 hN7 hg7 hs7
    have N7 : NatAt w7 B3 k p := hS6.1.grown hg7 (by simp; omega)
    have A7 : NumAt w7 BR false 0 zP 0 zP := RowAt.grown hS6.2 hg7 (by simp; omega)
    refine ⟨⟨N7, A7⟩, ?_⟩
    refine wpAnyH_done (by kernel_rfl) ?_ _
    refine NoPanic.normal ?_
    exact h w5.heap.size i r w7 hN7 N7 A7 hR hs5 (by rw [hs7]; simp) ((hW5.alloc hs5 _).grown hg7 (by simp; omega) (by intro k hk; cases hk; omega))
  · exact ⟨hN4.old _, RowAt.old A4 _⟩
  · have hS5 : NatAt (w4.drew.alloc (.cells (numC false 0 zP 0 zP) 48)) B3 k p ∧ NumAt (w4.drew.alloc (.cells (numC false 0 zP 0 zP) 48)) BR false 0 zP 0 zP := ⟨hN4.old _, RowAt.old A4 _⟩
    have M5 : NumAt (w4.drew.alloc (.cells (numC false 0 zP 0 zP) 48)) w4.heap.size false 0 zP 0 zP := NumAt.new w4.drew false 0 zP 0 zP
    refine held_call 3 (some 41) (by kernel_rfl) rfl rfl rfl 39 #[.int .i64 1] (by go_simp) _ (natOf_any 1 1 _ rfl (by omega) (by omega)) ?_
    rintro e w6 ⟨i, r, rfl, hR, hW6⟩
    have hr := hR.len
    have hs6 := hW6.size
    have hsz' : (w4.drew.alloc (.cells (numC false 0 zP 0 zP) 48)).heap.size = w4.heap.size + 1 := by simp
    have hS6 : NatAt w6 B3 k p ∧ NumAt w6 BR false 0 zP 0 zP := ⟨hS5.1.below hW6 (by omega), RowAt.below hS5.2 hW6 (by omega)⟩
    have M6 : NumAt w6 w4.heap.size false 0 zP 0 zP := RowAt.below M5 hW6 (by omega)
    have hB6 : Below w4.heap.size w4 w6 := (((Below.refl w4.heap.size w4).drew).alloc (Nat.le_refl _) _).trans (hW6.mono (by omega))
    refine ⟨_, rfl, hS6, ?_⟩
    refine held_val 4 (some 42) rfl rfl (by kernel_rfl) (by kernel_rfl) (by kernel_rfl) noPanic_put rfl (.agg (numC g k p i r)) (fun _ => run_bn (.tmp 40) (.tmp 41) rfl g k p i r hp hr (by rw [put_ne _ _ _ _ (by decide), put_ne _ _ _ _ (by decide), put_eq _ _ _ (by simp only [put_size]; omega)]) (by rw [put_eq _ _ _ (by simp only [put_size]; omega)])) hS6 ?_
    refine held_store_num 6 (by kernel_rfl) rfl rfl (.tmp 10) (.tmp 42) rfl rfl w4.heap.size g k p i r (by rw [put_ne _ _ _ _ (by decide), put_ne _ _ _ _ (by decide), put_eq _ _ _ (by simp only [put_size]; omega)]) (by rw [put_eq _ _ _ (by simp only [put_size]; omega)]) false 0 zP 0 zP M6 zP_len zP_len hp hr ?_
    intro w7 hN7 hg7 hs7
    have N7 : NatAt w7 B3 k p := hS6.1.grown hg7 (by simp; omega)
    have A7 : NumAt w7 BR false 0 zP 0 zP := RowAt.grown hS6.2 hg7 (by simp; omega)
    refine ⟨⟨N7, A7⟩, ?_⟩
    refine wpAnyH_done (by kernel_rfl) ?_ _
    refine NoPanic.normal ?_
    have := h w4.heap.size i r w7 hN7 N7 A7 hR (Nat.le_refl _) (by omega) (hB6.grown hg7 (by omega) (by intro k hk; cases hk; omega))
    rw [put_comm _ 42 10 _ _ (by decide), put_comm _ 41 10 _ _ (by decide)] at this
    exact this
end Go.Proofs.YtmfpnbmfcoahbaaGreatDoor

/-
  What readTerms of impl answers.
-/
namespace Go.Proofs.YtmfpnbmfcoahbaaGreatDoor
open Go.RowKit
set_option linter.unusedVariables false

/-- Is it a number but for lowest terms? -/
def okT (l : List UInt8) : Bool := (goodB (overN l) && !(negN l && decide (dval (overN l) = 0))) && (!brokenN l || (goodB (underN l) && (decide (dval (underN l) ≠ 0) && decide (dval (underN l) ≠ 1))))
/-- What readTerms should hand back. -/
def ReadT (l : List UInt8) (e : Ending) : Prop := ∃ (g : Bool) (k j : Nat) (p q : List Int), e = .returned (.tuple #[.agg (numC g k p j q), .bool (okT l)]) ∧ p.length = 204 ∧ q.length = 204 ∧ (okT l = true → g = negN l ∧ Rep (topN l) k p ∧ Rep (botN l) j q ∧ k ≤ 100 ∧ j ≤ 100 ∧ j ≠ 0)

theorem okN_eq (l : List UInt8) : okN l = (okT l && (decide (botN l = 1) || decide (Nat.gcd (topN l) (botN l) = 1))) := by
  unfold okN okT botN topN
  cases brokenN l with
  | false => simp
  | true =>
    simp only [Bool.not_true, Bool.false_or, if_true]
    by_cases h1 : dval (underN l) = 1
    · simp [h1]
    · by_cases h0 : dval (underN l) = 0
      · simp [h0]
      · simp [h0, h1, Bool.and_assoc]

theorem run_row_num {o : Oper} {a : Act} {w : World} (x : Operand) (ho : o.op = .load 48 x) (b : Nat) (hx : a.eval x = .pointer (some ⟨b, 0, none⟩)) (g : Bool) (u : Int) (p : List Int) (v : Int) (q : List Int) (hN : NumAt w b g u p v q) (hl : p.length = 204) (hm : q.length = 204) :
    (execOp a.eval o).run Tryz.prog w = .ok (.value (.agg (numC g u p v q))) w := by
  unfold execOp
  simp only [ho, hx, Instr.loadAt, Instr.sureAddr, Sem.run_bind, Sem.run_pure, Result.andThen_ok, run_loadVar_row w b 48 48 (numC g u p v q) (0, 0) _ hN Tryz.underlying48 rfl (num_info g u p v q hl hm)]

theorem one_lt' (k : Nat) (hk : k ≠ 0) : 1 < 10 ^ k := Nat.one_lt_pow hk (by decide)
theorem good_lt' {l : List UInt8} (h : goodB l = true) : dval l < 10 ^ 600 := (canon_len_le (good_canon h) 600 (by omega)).1 (good_len h)

set_option maxHeartbeats 6000000 in
set_option maxRecDepth 100000 in
theorem readTerms_any (s : ByteArray) (w : World) (hs : s.size ≤ maxLen) :
    Calls Tryz.prog 69 #[.string s] w fun e w' => ReadT s.data.toList e ∧ Below w.heap.size w w' := by
  have hz := zero_nat.1
  have hz1 := zero_whole.1
  have hz2 := zero_num.1
  have A := NumAt.new w false 0 zP 0 zP
  have hB : Below w.heap.size w (w.alloc (.cells (numC false 0 zP 0 zP) 48)) := (Below.refl _ _).alloc (Nat.le_refl _) _
  go_enter Tryz.func69, Tryz.ntmps69
  go_wp2_with fail
  refine (cutPrefix_any s _ hs).mono ?_
  rintro e w1 ⟨t, rfl, ht, rfl⟩
  have hts : t.size ≤ maxLen := by
    have h1 : t.data.toList.length = t.size := by simp
    have h2 : s.data.toList.length = s.size := by simp
    have : (bodyN s.data.toList).length ≤ s.data.toList.length := by unfold bodyN; split <;> simp
    rw [← ht] at this; omega
  have HTT := hide ht
  clear ht
  go_wp2_with fail
  refine (cut_any t _ hts).mono ?_
  rintro e w2 ⟨o, u, rfl, ho, hu, hW2⟩
  rw [HTT.out] at ho hu ⊢
  have hcs := cut_size (bodyN s.data.toList)
  have hos : o.size ≤ maxLen := by
    have h1 : o.data.toList.length = o.size := by simp
    have h2 : t.data.toList.length = t.size := by simp
    rw [HTT.out] at h2
    rw [ho] at h1; omega
  have hus : u.size ≤ maxLen := by
    have h1 : u.data.toList.length = u.size := by simp
    have h2 : t.data.toList.length = t.size := by simp
    rw [HTT.out] at h2
    rw [hu] at h1; omega
  have HO : Hid (o.data.toList = overN s.data.toList ∧ u.data.toList = underN s.data.toList) := ⟨ho, hu⟩
  obtain ⟨bk, hbk⟩ : ∃ bk, bk = (cut47 (bodyN s.data.toList)).2.2 := ⟨_, rfl⟩
  rw [← hbk]
  have HBK : Hid (bk = brokenN s.data.toList) := hbk
  obtain ⟨ng, hng⟩ : ∃ ng, ng = negN s.data.toList := ⟨_, rfl⟩
  rw [← hng]
  have HNG := hide hng
  have A2 : NumAt w2 w.heap.size false 0 zP 0 zP := A.below hW2 (by simp)
  have hB2 : Below w.heap.size w w2 := hB.trans (hW2.mono (by simp))
  have hs2 := hW2.size
  simp only [World.size_alloc] at hs2
  clear ho hu hcs hbk hng A hB hW2 HTT
  go_wp2_with fail
  refine (readNat_any o _ hos).mono ?_
  rintro e w3 ⟨k, p, oa, rfl, hRa, hW3⟩
  have hp := hRa.len
  have hs3 := hW3.size
  have A3 : NumAt w3 w.heap.size false 0 zP 0 zP := A2.below hW3 (by omega)
  have hB3 : Below w.heap.size w w3 := hB2.trans (hW3.mono (by omega))
  have F := NatAt.new w3 0 zP
  clear A2 hB2 hW3
  -- no number
  have NO : Hid (okT s.data.toList = false → ReadT s.data.toList (.returned (.tuple #[.agg (numC false 0 zP 0 zP), .bool false]))) := fun h => ⟨false, 0, 0, zP, zP, by rw [h]; rfl, zP_len, zP_len, fun h' => by rw [h] at h'; cases h'⟩
  have hok : oa = goodB (overN s.data.toList) := by rw [← HO.out.1]; exact hRa.ok
  cases hg : oa with
  | false =>
    subst hg
    have HN : Hid (okT s.data.toList = false) := by unfold Hid okT; rw [← hok]; rfl
    clear hok hRa
    go_wp2_with (first | (refine store_nat rfl _ _ rfl rfl w3.heap.size k p rfl rfl 0 zP F zP_len hp ?_; intro w4 hN4 hg4 hs4; have c0 := hN4.c0; have A4 : NumAt w4 w.heap.size false 0 zP 0 zP := (RowAt.old A3 (.cells (natC 0 zP) 32)).grown hg4 (by first | (simp; done) | (simp; omega))) | (refine build_num0 rfl rfl _ rfl ?_) | (refine store_num rfl _ _ rfl rfl w.heap.size false 0 zP 0 zP rfl rfl false 0 zP 0 zP A4 zP_len zP_len zP_len zP_len ?_; intro w5 hN5 hg5 hs5))
    refine bodyPost_ret (v := .tuple #[.agg (numC false 0 zP 0 zP), .bool false]) (res_num_tmp Tryz.results69 _ _ w.heap.size _ _ _ _ _ _ rfl rfl hN5 zP_len zP_len) rfl ⟨NO.out HN.out, ?_⟩
    exact ((hB3.alloc (by omega) _).grown hg4 (by first | (simp; done) | (simp; omega)) (by intro k hk; cases hk; omega)).grown hg5 (by rw [hs4]; simp; omega) (by intro k hk; cases hk; omega)
  | true =>
    subst hg
    have hgo : goodB o.data.toList = true := by rw [HO.out.1]; exact hok.symm
    have ra : Rep (topN s.data.toList) k p := by unfold topN; rw [← HO.out.1]; exact hRa.rep hgo
    have hk : k ≤ 100 := by
      have h1 : topN s.data.toList < 10 ^ 600 := by unfold topN; rw [← HO.out.1]; exact good_lt' hgo
      exact ra.fits.2 h1
    have RA := hide ra
    have HGO : Hid (goodB (overN s.data.toList) = true) := hok.symm
    clear hok hRa hgo ra
    by_cases hbad : ng = true ∧ k = 0
    · have HN : Hid (okT s.data.toList = false) := by
        unfold Hid okT
        have h0 : dval (overN s.data.toList) = 0 := RA.out.zero_iff.1 hbad.2
        rw [HGO.out, ← HNG.out, hbad.1, h0]; rfl
      obtain ⟨h1, h2⟩ := hbad
      have h2' : ((k : Int) == 0) = true := by simp [h2]
      subst h1
      clear h2
      go_wp2_with (first | (refine store_nat rfl _ _ rfl rfl w3.heap.size k p rfl rfl 0 zP F zP_len hp ?_; intro w4 hN4 hg4 hs4; have c0 := hN4.c0; have A4 : NumAt w4 w.heap.size false 0 zP 0 zP := (RowAt.old A3 (.cells (natC 0 zP) 32)).grown hg4 (by first | (simp; done) | (simp; omega))) | (refine build_num0 rfl rfl _ rfl ?_) | (refine store_num rfl _ _ rfl rfl w.heap.size false 0 zP 0 zP rfl rfl false 0 zP 0 zP A4 zP_len zP_len zP_len zP_len ?_; intro w5 hN5 hg5 hs5))
      refine bodyPost_ret (v := .tuple #[.agg (numC false 0 zP 0 zP), .bool false]) (res_num_tmp Tryz.results69 _ _ w.heap.size _ _ _ _ _ _ rfl rfl hN5 zP_len zP_len) rfl ⟨NO.out HN.out, ?_⟩
      exact ((hB3.alloc (by omega) _).grown hg4 (by first | (simp; done) | (simp; omega)) (by intro k hk; cases hk; omega)).grown hg5 (by rw [hs4]; simp; omega) (by intro k hk; cases hk; omega)
    · have HSG : Hid ((goodB (overN s.data.toList) && !(negN s.data.toList && decide (dval (overN s.data.toList) = 0))) = true) := by
        unfold Hid
        rw [HGO.out, ← HNG.out]
        cases ng with
        | false => rfl
        | true =>
          have : dval (overN s.data.toList) ≠ 0 := fun e => hbad ⟨rfl, RA.out.zero_iff.2 e⟩
          simp [this]
      have hbad' : ng = false ∨ ((k : Int) == 0) = false := by
        cases ng with
        | false => exact .inl rfl
        | true => right; rw [beq_eq_false_iff_ne]; intro e; exact hbad ⟨rfl, by omega⟩
      clear hbad
      cases ng with
      | false =>
        clear hbad'
        go_wp2_with (refine store_nat rfl _ _ rfl rfl w3.heap.size k p rfl rfl 0 zP F zP_len hp ?_; intro w4 hN4 hg4 hs4; have c0 := hN4.c0)
        have hs4' : w4.heap.size = w3.heap.size + 1 := by rw [hs4]; simp
        have A4 : NumAt w4 w.heap.size false 0 zP 0 zP := (RowAt.old A3 (.cells (natC 0 zP) 32)).grown hg4 (by first | (simp; done) | (simp; omega))
        have hB4 : Below w.heap.size w w4 := (hB3.alloc (by omega) _).grown hg4 (by first | (simp; done) | (simp; omega)) (by intro k hk; cases hk; omega)
        clear A3 hB3 F hg4 hs4 c0
        refine region_make "l2_num.go:181" false k p hp w3.heap.size w.heap.size rfl rfl (by simp) hz2 hN4 A4 ?_
        intro b0 i r w7 hN7 N7 A7 hR hb0 hlt7 hW7
        have hr := hR.len
        have hB7 : Below w.heap.size w w7 := hB4.trans (hW7.mono hB4.size)
        have hb3 : w3.heap.size < b0 := by omega
        have hsB4 := hB4.size
        clear hN4 A4 hB4 hW7
        simp only [Act.put, List.setIfInBounds_toArray, List.set_cons_zero, List.set_cons_succ]
        have hi := (hR.fits.2 (one_lt' 600 (by decide)))
        have hi0 : i ≠ 0 := fun e => by have := hR.zero_iff.1 e; omega
        have HR1 := hide hR
        clear hR
        cases bk with
        | false =>
          have HN : Hid (okT s.data.toList = true) := by unfold Hid okT; rw [HSG.out, ← HBK.out]; rfl
          have HRD : Hid (ReadT s.data.toList (.returned (.tuple #[.agg (numC false k p i r), .bool true]))) := ⟨false, k, i, p, r, by rw [HN.out], hp, hr, fun _ => ⟨HNG.out, RA.out, by unfold botN; rw [← HBK.out]; exact HR1.out, hk, hi, hi0⟩⟩
          go_wp2_with (first | (refine load_num rfl _ rfl b0 rfl false k p i r hN7 hp hr ?_) | (refine store_num rfl _ _ rfl rfl w.heap.size false k p i r rfl rfl false 0 zP 0 zP A7 zP_len zP_len hp hr ?_; intro w8 hN8 hg8 hs8))
          refine bodyPost_ret (v := .tuple #[.agg (numC false k p i r), .bool true]) (res_num_tmp Tryz.results69 _ _ w.heap.size _ _ _ _ _ _ rfl rfl hN8 hp hr) rfl ⟨HRD.out, ?_⟩
          exact hB7.grown hg8 (by have := hB7.size; omega) (by intro k hk; cases hk; omega)
        | true =>
          go_wp2_with fail
          refine (readNat_any u _ hus).mono ?_
          rintro e w8 ⟨m, q, ob, rfl, hRb, hW8⟩
          have hq := hRb.len
          have hs8 := hW8.size
          have A8 : NumAt w8 w.heap.size false 0 zP 0 zP := A7.below hW8 (by omega)
          have M8 : NumAt w8 b0 false k p i r := hN7.below hW8 hlt7
          have hB8 : Below w.heap.size w w8 := hB7.trans (hW8.mono hB7.size)
          clear A7 N7 hN7 hB7 hW8
          have hokb : ob = goodB (underN s.data.toList) := by rw [← HO.out.2]; exact hRb.ok
          cases hob : ob with
          | false =>
            subst hob
            have HN : Hid (okT s.data.toList = false) := by unfold Hid okT; rw [← HBK.out, ← hokb, HSG.out]; rfl
            clear hokb hRb
            go_wp2_with (refine store_bottom rfl _ _ rfl rfl b0 m q rfl rfl false k p i r M8 hp hr hq ?_; intro w9 M9 hg9 hs9)
            have A9 : NumAt w9 w.heap.size false 0 zP 0 zP := RowAt.grown A8 hg9 (by simp; omega)
            have hB9 : Below w.heap.size w w9 := hB8.grown hg9 (by have := hB8.size; omega) (by intro k hk; cases hk; omega)
            have hlt9 := M9.lt
            have hltA := A9.lt
            have hwb : w.heap.size < b0 := by omega
            clear A8 M8 hB8 hg9
            refine held_begin (fun w' => NumAt w' b0 false k p m q ∧ True) (by kernel_rfl) ?_
            have hS : NumAt w9.drew b0 false k p m q ∧ True := ⟨M9, trivial⟩
            refine held_valS 0 (some 52) rfl rfl (by kernel_rfl) (by kernel_rfl) (by kernel_rfl) noPanic_put rfl (.agg (numC false k p m q)) (fun _ h => run_row_num _ rfl b0 rfl false k p m q h.1 hp hq) hS ?_
            simp only [Act.put, List.setIfInBounds_toArray, List.set_cons_zero, List.set_cons_succ]
            refine held_valS 1 (some 53) rfl rfl (by kernel_rfl) (by kernel_rfl) (by kernel_rfl) noPanic_put rfl (.bool false) (fun _ _ => by go_simp) hS ?_
            simp only [Act.put, List.setIfInBounds_toArray, List.set_cons_zero, List.set_cons_succ]
            refine held_valS 2 (some 54) rfl rfl (by kernel_rfl) (by kernel_rfl) (by kernel_rfl) noPanic_put rfl (.bool false) (fun _ _ => by go_simp) hS ?_
            simp only [Act.put, List.setIfInBounds_toArray, List.set_cons_zero, List.set_cons_succ]
            refine held_skip 3 (some 55) rfl rfl (by kernel_rfl) (by kernel_rfl) (by kernel_rfl) noPanic_put rfl hS ?_
            simp only [Act.put, List.setIfInBounds_toArray, List.set_cons_zero, List.set_cons_succ]
            refine held_skip 4 (some 56) rfl rfl (by kernel_rfl) (by kernel_rfl) (by kernel_rfl) noPanic_put rfl hS ?_
            simp only [Act.put, List.setIfInBounds_toArray, List.set_cons_zero, List.set_cons_succ]
            refine held_skip 5 (some 57) rfl rfl (by kernel_rfl) (by kernel_rfl) (by kernel_rfl) noPanic_put rfl hS ?_
            simp only [Act.put, List.setIfInBounds_toArray, List.set_cons_zero, List.set_cons_succ]
            refine held_skip 6 (some 58) rfl rfl (by kernel_rfl) (by kernel_rfl) (by kernel_rfl) noPanic_put rfl hS ?_
            simp only [Act.put, List.setIfInBounds_toArray, List.set_cons_zero, List.set_cons_succ]
            refine held_valS 7 (some 59) rfl rfl (by kernel_rfl) (by kernel_rfl) (by kernel_rfl) noPanic_put rfl (.bool false) (fun _ _ => by go_simp) hS ?_
            simp only [Act.put, List.setIfInBounds_toArray, List.set_cons_zero, List.set_cons_succ]
            refine held_valS 8 (some 60) rfl rfl (by kernel_rfl) (by kernel_rfl) (by kernel_rfl) noPanic_put rfl (.bool false) (fun _ _ => by go_simp) hS ?_
            simp only [Act.put, List.setIfInBounds_toArray, List.set_cons_zero, List.set_cons_succ]
            refine held_skip 9 (some 61) rfl rfl (by kernel_rfl) (by kernel_rfl) (by kernel_rfl) noPanic_put rfl hS ?_
            simp only [Act.put, List.setIfInBounds_toArray, List.set_cons_zero, List.set_cons_succ]
            refine held_skip 10 (some 62) rfl rfl (by kernel_rfl) (by kernel_rfl) (by kernel_rfl) noPanic_put rfl hS ?_
            simp only [Act.put, List.setIfInBounds_toArray, List.set_cons_zero, List.set_cons_succ]
            refine held_skip 11 (some 63) rfl rfl (by kernel_rfl) (by kernel_rfl) (by kernel_rfl) noPanic_put rfl hS ?_
            simp only [Act.put, List.setIfInBounds_toArray, List.set_cons_zero, List.set_cons_succ]
            refine held_valS 12 (some 64) rfl rfl (by kernel_rfl) (by kernel_rfl) (by kernel_rfl) noPanic_put rfl (.bool false) (fun _ _ => by go_simp) hS ?_
            simp only [Act.put, List.setIfInBounds_toArray, List.set_cons_zero, List.set_cons_succ]
            refine held_store_num 13 (by kernel_rfl) rfl rfl (.tmp 2) (.tmp 52) rfl rfl w.heap.size false k p m q rfl rfl false 0 zP 0 zP A9 zP_len zP_len hp hq ?_
            intro wf hNf hgf hsf
            refine ⟨⟨RowAt.grown hS.1 hgf (by simp; omega), trivial⟩, ?_⟩
            refine held_assign 14 (some 3) (by kernel_rfl) rfl rfl _ rfl rfl _ rfl ⟨RowAt.grown hS.1 hgf (by simp; omega), trivial⟩ ?_
            simp only [Act.put, List.setIfInBounds_toArray, List.set_cons_zero, List.set_cons_succ]
            refine wpAnyH_done (by kernel_rfl) ?_ _
            refine NoPanic.normal ?_
            go_wp2
            refine bodyPost_ret (v := .tuple #[.agg (numC false k p m q), .bool false]) (res_num_tmp Tryz.results69 _ _ w.heap.size _ _ _ _ _ _ rfl rfl hNf hp hq) rfl ⟨?_, ?_⟩
            · exact ⟨false, k, m, p, q, by rw [HN.out], hp, hq, fun h => by rw [HN.out] at h; cases h⟩
            · exact hB9.drew.grown hgf (by have := hB9.size; simp; omega) (by intro k hk; cases hk; omega)
          | true =>
            subst hob
            have hgu : goodB u.data.toList = true := by rw [HO.out.2]; exact hokb.symm
            have rb : Rep (dval (underN s.data.toList)) m q := by rw [← HO.out.2]; exact hRb.rep hgu
            have hm : m ≤ 100 := by
              have h1 : dval (underN s.data.toList) < 10 ^ 600 := by rw [← HO.out.2]; exact good_lt' hgu
              exact rb.fits.2 h1
            have RB := hide rb
            have HGU : Hid (goodB (underN s.data.toList) = true) := hokb.symm
            clear hokb hRb hgu rb
            by_cases hm0 : m = 0
            · have HN : Hid (okT s.data.toList = false) := by
                unfold Hid okT; rw [← HBK.out, HGU.out, HSG.out, RB.out.zero_iff.1 hm0]; rfl
              have hm0' : ¬ 0 < (m : Int) := by omega
              clear hm0
              go_wp2_with (refine store_bottom rfl _ _ rfl rfl b0 m q rfl rfl false k p i r M8 hp hr hq ?_; intro w9 M9 hg9 hs9)
              have A9 : NumAt w9 w.heap.size false 0 zP 0 zP := RowAt.grown A8 hg9 (by simp; omega)
              have hB9 : Below w.heap.size w w9 := hB8.grown hg9 (by have := hB8.size; omega) (by intro k hk; cases hk; omega)
              have hlt9 := M9.lt
              have hltA := A9.lt
              have hwb : w.heap.size < b0 := by omega
              clear A8 M8 hB8 hg9
              refine held_begin (fun w' => NumAt w' b0 false k p m q ∧ True) (by kernel_rfl) ?_
              have hS : NumAt w9.drew b0 false k p m q ∧ True := ⟨M9, trivial⟩
              refine held_valS 0 (some 52) rfl rfl (by kernel_rfl) (by kernel_rfl) (by kernel_rfl) noPanic_put rfl (.agg (numC false k p m q)) (fun _ h => run_row_num _ rfl b0 rfl false k p m q h.1 hp hq) hS ?_
              simp only [Act.put, List.setIfInBounds_toArray, List.set_cons_zero, List.set_cons_succ]
              refine held_valS 1 (some 53) rfl rfl (by kernel_rfl) (by kernel_rfl) (by kernel_rfl) noPanic_put rfl (.bool true) (fun _ _ => by go_simp) hS ?_
              simp only [Act.put, List.setIfInBounds_toArray, List.set_cons_zero, List.set_cons_succ]
              refine held_valS 2 (some 54) rfl rfl (by kernel_rfl) (by kernel_rfl) (by kernel_rfl) noPanic_put rfl (.bool true) (fun _ _ => by go_simp) hS ?_
              simp only [Act.put, List.setIfInBounds_toArray, List.set_cons_zero, List.set_cons_succ]
              refine held_valS 3 (some 55) rfl rfl (by kernel_rfl) (by kernel_rfl) (by kernel_rfl) noPanic_put rfl (.pointer (some ⟨b0, 206, none⟩)) (fun _ _ => by go_simp) hS ?_
              simp only [Act.put, List.setIfInBounds_toArray, List.set_cons_zero, List.set_cons_succ]
              refine held_valS 4 (some 56) rfl rfl (by kernel_rfl) (by kernel_rfl) (by kernel_rfl) noPanic_put rfl (.pointer (some ⟨b0, 206, none⟩)) (fun _ _ => by go_simp) hS ?_
              simp only [Act.put, List.setIfInBounds_toArray, List.set_cons_zero, List.set_cons_succ]
              refine held_valS 5 (some 57) rfl rfl (by kernel_rfl) (by kernel_rfl) (by kernel_rfl) noPanic_put rfl (.int .i64 m) (fun _ h => by have c := h.1.bused hp; go_simp) hS ?_
              simp only [Act.put, List.setIfInBounds_toArray, List.set_cons_zero, List.set_cons_succ]
              refine held_valS 6 (some 58) rfl rfl (by kernel_rfl) (by kernel_rfl) (by kernel_rfl) noPanic_put rfl (.bool false) (fun _ _ => by go_simp; omega) hS ?_
              simp only [Act.put, List.setIfInBounds_toArray, List.set_cons_zero, List.set_cons_succ]
              refine held_valS 7 (some 59) rfl rfl (by kernel_rfl) (by kernel_rfl) (by kernel_rfl) noPanic_put rfl (.bool false) (fun _ _ => by go_simp) hS ?_
              simp only [Act.put, List.setIfInBounds_toArray, List.set_cons_zero, List.set_cons_succ]
              refine held_valS 8 (some 60) rfl rfl (by kernel_rfl) (by kernel_rfl) (by kernel_rfl) noPanic_put rfl (.bool false) (fun _ _ => by go_simp) hS ?_
              simp only [Act.put, List.setIfInBounds_toArray, List.set_cons_zero, List.set_cons_succ]
              refine held_skip 9 (some 61) rfl rfl (by kernel_rfl) (by kernel_rfl) (by kernel_rfl) noPanic_put rfl hS ?_
              simp only [Act.put, List.setIfInBounds_toArray, List.set_cons_zero, List.set_cons_succ]
              refine held_skip 10 (some 62) rfl rfl (by kernel_rfl) (by kernel_rfl) (by kernel_rfl) noPanic_put rfl hS ?_
              simp only [Act.put, List.setIfInBounds_toArray, List.set_cons_zero, List.set_cons_succ]
              refine held_skip 11 (some 63) rfl rfl (by kernel_rfl) (by kernel_rfl) (by kernel_rfl) noPanic_put rfl hS ?_
              simp only [Act.put, List.setIfInBounds_toArray, List.set_cons_zero, List.set_cons_succ]
              refine held_valS 12 (some 64) rfl rfl (by kernel_rfl) (by kernel_rfl) (by kernel_rfl) noPanic_put rfl (.bool false) (fun _ _ => by go_simp) hS ?_
              simp only [Act.put, List.setIfInBounds_toArray, List.set_cons_zero, List.set_cons_succ]
              refine held_store_num 13 (by kernel_rfl) rfl rfl (.tmp 2) (.tmp 52) rfl rfl w.heap.size false k p m q rfl rfl false 0 zP 0 zP A9 zP_len zP_len hp hq ?_
              intro wf hNf hgf hsf
              refine ⟨⟨RowAt.grown hS.1 hgf (by simp; omega), trivial⟩, ?_⟩
              refine held_assign 14 (some 3) (by kernel_rfl) rfl rfl _ rfl rfl _ rfl ⟨RowAt.grown hS.1 hgf (by simp; omega), trivial⟩ ?_
              simp only [Act.put, List.setIfInBounds_toArray, List.set_cons_zero, List.set_cons_succ]
              refine wpAnyH_done (by kernel_rfl) ?_ _
              refine NoPanic.normal ?_
              go_wp2
              refine bodyPost_ret (v := .tuple #[.agg (numC false k p m q), .bool false]) (res_num_tmp Tryz.results69 _ _ w.heap.size _ _ _ _ _ _ rfl rfl hNf hp hq) rfl ⟨?_, ?_⟩
              · exact ⟨false, k, m, p, q, by rw [HN.out], hp, hq, fun h => by rw [HN.out] at h; cases h⟩
              · exact hB9.drew.grown hgf (by have := hB9.size; simp; omega) (by intro k hk; cases hk; omega)
            · have hm0' : 0 < (m : Int) := by omega
              have HU0 : Hid (dval (underN s.data.toList) ≠ 0) := fun e => hm0 (RB.out.zero_iff.2 e)
              go_wp2_with (refine store_bottom rfl _ _ rfl rfl b0 m q rfl rfl false k p i r M8 hp hr hq ?_; intro w9 M9 hg9 hs9)
              have A9 : NumAt w9 w.heap.size false 0 zP 0 zP := RowAt.grown A8 hg9 (by simp; omega)
              have hB9 : Below w.heap.size w w9 := hB8.grown hg9 (by have := hB8.size; omega) (by intro k hk; cases hk; omega)
              have hlt9 := M9.lt
              have hltA := A9.lt
              have hwb : w.heap.size < b0 := by omega
              clear A8 M8 hB8 hg9
              refine held_begin (fun w' => NumAt w' b0 false k p m q ∧ True) (by kernel_rfl) ?_
              have hS : NumAt w9.drew b0 false k p m q ∧ True := ⟨M9, trivial⟩
              refine held_valS 0 (some 52) rfl rfl (by kernel_rfl) (by kernel_rfl) (by kernel_rfl) noPanic_put rfl (.agg (numC false k p m q)) (fun _ h => run_row_num _ rfl b0 rfl false k p m q h.1 hp hq) hS ?_
              simp only [Act.put, List.setIfInBounds_toArray, List.set_cons_zero, List.set_cons_succ]
              refine held_valS 1 (some 53) rfl rfl (by kernel_rfl) (by kernel_rfl) (by kernel_rfl) noPanic_put rfl (.bool true) (fun _ _ => by go_simp) hS ?_
              simp only [Act.put, List.setIfInBounds_toArray, List.set_cons_zero, List.set_cons_succ]
              refine held_valS 2 (some 54) rfl rfl (by kernel_rfl) (by kernel_rfl) (by kernel_rfl) noPanic_put rfl (.bool true) (fun _ _ => by go_simp) hS ?_
              simp only [Act.put, List.setIfInBounds_toArray, List.set_cons_zero, List.set_cons_succ]
              refine held_valS 3 (some 55) rfl rfl (by kernel_rfl) (by kernel_rfl) (by kernel_rfl) noPanic_put rfl (.pointer (some ⟨b0, 206, none⟩)) (fun _ _ => by go_simp) hS ?_
              simp only [Act.put, List.setIfInBounds_toArray, List.set_cons_zero, List.set_cons_succ]
              refine held_valS 4 (some 56) rfl rfl (by kernel_rfl) (by kernel_rfl) (by kernel_rfl) noPanic_put rfl (.pointer (some ⟨b0, 206, none⟩)) (fun _ _ => by go_simp) hS ?_
              simp only [Act.put, List.setIfInBounds_toArray, List.set_cons_zero, List.set_cons_succ]
              refine held_valS 5 (some 57) rfl rfl (by kernel_rfl) (by kernel_rfl) (by kernel_rfl) noPanic_put rfl (.int .i64 m) (fun _ h => by have c := h.1.bused hp; go_simp) hS ?_
              simp only [Act.put, List.setIfInBounds_toArray, List.set_cons_zero, List.set_cons_succ]
              refine held_valS 6 (some 58) rfl rfl (by kernel_rfl) (by kernel_rfl) (by kernel_rfl) noPanic_put rfl (.bool true) (fun _ _ => by go_simp; omega) hS ?_
              simp only [Act.put, List.setIfInBounds_toArray, List.set_cons_zero, List.set_cons_succ]
              refine held_valS 7 (some 59) rfl rfl (by kernel_rfl) (by kernel_rfl) (by kernel_rfl) noPanic_put rfl (.bool true) (fun _ _ => by go_simp) hS ?_
              simp only [Act.put, List.setIfInBounds_toArray, List.set_cons_zero, List.set_cons_succ]
              refine held_valS 8 (some 60) rfl rfl (by kernel_rfl) (by kernel_rfl) (by kernel_rfl) noPanic_put rfl (.bool true) (fun _ _ => by go_simp) hS ?_
              simp only [Act.put, List.setIfInBounds_toArray, List.set_cons_zero, List.set_cons_succ]
              refine held_valS 9 (some 61) rfl rfl (by kernel_rfl) (by kernel_rfl) (by kernel_rfl) noPanic_put rfl (.agg (numC false k p m q)) (fun _ h => run_row_num _ rfl b0 rfl false k p m q h.1 hp hq) hS ?_
              simp only [Act.put, List.setIfInBounds_toArray, List.set_cons_zero, List.set_cons_succ]
              refine held_call 10 (some 62) (by kernel_rfl) rfl rfl rfl 49 #[.agg (numC false k p m q)] (by go_simp) _ (isWhole_any (n := 0) false _ hp RB.out) ?_
              rintro e w10 ⟨rfl, hW10⟩
              have hW10 : Below w9.heap.size w9 w10 := ⟨hW10.os, hW10.tape, hW10.output, hW10.size, hW10.block⟩
              have hs10 := hW10.size
              have A10 : NumAt w10 w.heap.size false 0 zP 0 zP := RowAt.below A9 hW10 hltA
              have hS : NumAt w10 b0 false k p m q ∧ True := ⟨RowAt.below M9 hW10 hlt9, trivial⟩
              have hB10 : Below w.heap.size w w10 := hB9.trans (hW10.mono hB9.size)
              refine ⟨_, rfl, hS, ?_⟩
              simp only [Act.put, List.setIfInBounds_toArray, List.set_cons_zero, List.set_cons_succ]
              obtain ⟨ow, how⟩ : ∃ ow, ow = decide (dval (underN s.data.toList) = 1) := ⟨_, rfl⟩
              rw [← how]
              have HOW := hide how
              clear how
              refine held_valS 11 (some 63) rfl rfl (by kernel_rfl) (by kernel_rfl) (by kernel_rfl) noPanic_put rfl (.bool (!ow)) (fun _ _ => by cases ow <;> go_simp) hS ?_
              simp only [Act.put, List.setIfInBounds_toArray, List.set_cons_zero, List.set_cons_succ]
              refine held_valS 12 (some 64) rfl rfl (by kernel_rfl) (by kernel_rfl) (by kernel_rfl) noPanic_put rfl (.bool (!ow)) (fun _ _ => by cases ow <;> go_simp) hS ?_
              simp only [Act.put, List.setIfInBounds_toArray, List.set_cons_zero, List.set_cons_succ]
              refine held_store_num 13 (by kernel_rfl) rfl rfl (.tmp 2) (.tmp 52) rfl rfl w.heap.size false k p m q rfl rfl false 0 zP 0 zP A10 zP_len zP_len hp hq ?_
              intro wf hNf hgf hsf
              refine ⟨⟨RowAt.grown hS.1 hgf (by simp; omega), trivial⟩, ?_⟩
              refine held_assign 14 (some 3) (by kernel_rfl) rfl rfl _ rfl rfl _ rfl ⟨RowAt.grown hS.1 hgf (by simp; omega), trivial⟩ ?_
              simp only [Act.put, List.setIfInBounds_toArray, List.set_cons_zero, List.set_cons_succ]
              refine wpAnyH_done (by kernel_rfl) ?_ _
              refine NoPanic.normal ?_
              go_wp2
              refine bodyPost_ret (v := .tuple #[.agg (numC false k p m q), .bool (!ow)]) (res_num_tmp Tryz.results69 _ _ w.heap.size _ _ _ _ _ _ rfl rfl hNf hp hq) rfl ⟨?_, ?_⟩
              · refine ⟨false, k, m, p, q, ?_, hp, hq, fun _ => ⟨HNG.out, RA.out, by unfold botN; rw [← HBK.out]; exact RB.out, hk, hm, hm0⟩⟩
                have : okT s.data.toList = !ow := by
                  unfold okT
                  rw [← HBK.out, HGU.out, HSG.out, decide_eq_true HU0.out, HOW.out]
                  by_cases h1 : dval (underN s.data.toList) = 1 <;> simp [h1]
                rw [this]
              · exact hB10.grown hgf (by have := hB10.size; omega) (by intro k hk; cases hk; omega)
      | true =>
        have hb1 : ((k : Int) == 0) = false := hbad'.resolve_left (by decide)
        clear hbad'
        go_wp2_with (refine store_nat rfl _ _ rfl rfl w3.heap.size k p rfl rfl 0 zP F zP_len hp ?_; intro w4 hN4 hg4 hs4; have c0 := hN4.c0)
        have hs4' : w4.heap.size = w3.heap.size + 1 := by rw [hs4]; simp
        have A4 : NumAt w4 w.heap.size false 0 zP 0 zP := (RowAt.old A3 (.cells (natC 0 zP) 32)).grown hg4 (by first | (simp; done) | (simp; omega))
        have hB4 : Below w.heap.size w w4 := (hB3.alloc (by omega) _).grown hg4 (by first | (simp; done) | (simp; omega)) (by intro k hk; cases hk; omega)
        clear A3 hB3 F hg4 hs4 c0
        refine region_make "l2_num.go:181" true k p hp w3.heap.size w.heap.size rfl rfl (by simp) hz2 hN4 A4 ?_
        intro b0 i r w7 hN7 N7 A7 hR hb0 hlt7 hW7
        have hr := hR.len
        have hB7 : Below w.heap.size w w7 := hB4.trans (hW7.mono hB4.size)
        have hb3 : w3.heap.size < b0 := by omega
        have hsB4 := hB4.size
        clear hN4 A4 hB4 hW7
        simp only [Act.put, List.setIfInBounds_toArray, List.set_cons_zero, List.set_cons_succ]
        have hi := (hR.fits.2 (one_lt' 600 (by decide)))
        have hi0 : i ≠ 0 := fun e => by have := hR.zero_iff.1 e; omega
        have HR1 := hide hR
        clear hR
        cases bk with
        | false =>
          have HN : Hid (okT s.data.toList = true) := by unfold Hid okT; rw [HSG.out, ← HBK.out]; rfl
          have HRD : Hid (ReadT s.data.toList (.returned (.tuple #[.agg (numC true k p i r), .bool true]))) := ⟨true, k, i, p, r, by rw [HN.out], hp, hr, fun _ => ⟨HNG.out, RA.out, by unfold botN; rw [← HBK.out]; exact HR1.out, hk, hi, hi0⟩⟩
          go_wp2_with (first | (refine load_num rfl _ rfl b0 rfl true k p i r hN7 hp hr ?_) | (refine store_num rfl _ _ rfl rfl w.heap.size true k p i r rfl rfl false 0 zP 0 zP A7 zP_len zP_len hp hr ?_; intro w8 hN8 hg8 hs8))
          refine bodyPost_ret (v := .tuple #[.agg (numC true k p i r), .bool true]) (res_num_tmp Tryz.results69 _ _ w.heap.size _ _ _ _ _ _ rfl rfl hN8 hp hr) rfl ⟨HRD.out, ?_⟩
          exact hB7.grown hg8 (by have := hB7.size; omega) (by intro k hk; cases hk; omega)
        | true =>
          go_wp2_with fail
          refine (readNat_any u _ hus).mono ?_
          rintro e w8 ⟨m, q, ob, rfl, hRb, hW8⟩
          have hq := hRb.len
          have hs8 := hW8.size
          have A8 : NumAt w8 w.heap.size false 0 zP 0 zP := A7.below hW8 (by omega)
          have M8 : NumAt w8 b0 true k p i r := hN7.below hW8 hlt7
          have hB8 : Below w.heap.size w w8 := hB7.trans (hW8.mono hB7.size)
          clear A7 N7 hN7 hB7 hW8
          have hokb : ob = goodB (underN s.data.toList) := by rw [← HO.out.2]; exact hRb.ok
          cases hob : ob with
          | false =>
            subst hob
            have HN : Hid (okT s.data.toList = false) := by unfold Hid okT; rw [← HBK.out, ← hokb, HSG.out]; rfl
            clear hokb hRb
            go_wp2_with (refine store_bottom rfl _ _ rfl rfl b0 m q rfl rfl true k p i r M8 hp hr hq ?_; intro w9 M9 hg9 hs9)
            have A9 : NumAt w9 w.heap.size false 0 zP 0 zP := RowAt.grown A8 hg9 (by simp; omega)
            have hB9 : Below w.heap.size w w9 := hB8.grown hg9 (by have := hB8.size; omega) (by intro k hk; cases hk; omega)
            have hlt9 := M9.lt
            have hltA := A9.lt
            have hwb : w.heap.size < b0 := by omega
            clear A8 M8 hB8 hg9
            refine held_begin (fun w' => NumAt w' b0 true k p m q ∧ True) (by kernel_rfl) ?_
            have hS : NumAt w9.drew b0 true k p m q ∧ True := ⟨M9, trivial⟩
            refine held_valS 0 (some 52) rfl rfl (by kernel_rfl) (by kernel_rfl) (by kernel_rfl) noPanic_put rfl (.agg (numC true k p m q)) (fun _ h => run_row_num _ rfl b0 rfl true k p m q h.1 hp hq) hS ?_
            simp only [Act.put, List.setIfInBounds_toArray, List.set_cons_zero, List.set_cons_succ]
            refine held_valS 1 (some 53) rfl rfl (by kernel_rfl) (by kernel_rfl) (by kernel_rfl) noPanic_put rfl (.bool false) (fun _ _ => by go_simp) hS ?_
            simp only [Act.put, List.setIfInBounds_toArray, List.set_cons_zero, List.set_cons_succ]
            refine held_valS 2 (some 54) rfl rfl (by kernel_rfl) (by kernel_rfl) (by kernel_rfl) noPanic_put rfl (.bool false) (fun _ _ => by go_simp) hS ?_
            simp only [Act.put, List.setIfInBounds_toArray, List.set_cons_zero, List.set_cons_succ]
            refine held_skip 3 (some 55) rfl rfl (by kernel_rfl) (by kernel_rfl) (by kernel_rfl) noPanic_put rfl hS ?_
            simp only [Act.put, List.setIfInBounds_toArray, List.set_cons_zero, List.set_cons_succ]
            refine held_skip 4 (some 56) rfl rfl (by kernel_rfl) (by kernel_rfl) (by kernel_rfl) noPanic_put rfl hS ?_
            simp only [Act.put, List.setIfInBounds_toArray, List.set_cons_zero, List.set_cons_succ]
            refine held_skip 5 (some 57) rfl rfl (by kernel_rfl) (by kernel_rfl) (by kernel_rfl) noPanic_put rfl hS ?_
            simp only [Act.put, List.setIfInBounds_toArray, List.set_cons_zero, List.set_cons_succ]
            refine held_skip 6 (some 58) rfl rfl (by kernel_rfl) (by kernel_rfl) (by kernel_rfl) noPanic_put rfl hS ?_
            simp only [Act.put, List.setIfInBounds_toArray, List.set_cons_zero, List.set_cons_succ]
            refine held_valS 7 (some 59) rfl rfl (by kernel_rfl) (by kernel_rfl) (by kernel_rfl) noPanic_put rfl (.bool false) (fun _ _ => by go_simp) hS ?_
            simp only [Act.put, List.setIfInBounds_toArray, List.set_cons_zero, List.set_cons_succ]
            refine held_valS 8 (some 60) rfl rfl (by kernel_rfl) (by kernel_rfl) (by kernel_rfl) noPanic_put rfl (.bool false) (fun _ _ => by go_simp) hS ?_
            simp only [Act.put, List.setIfInBounds_toArray, List.set_cons_zero, List.set_cons_succ]
            refine held_skip 9 (some 61) rfl rfl (by kernel_rfl) (by kernel_rfl) (by kernel_rfl) noPanic_put rfl hS ?_
            simp only [Act.put, List.setIfInBounds_toArray, List.set_cons_zero, List.set_cons_succ]
            refine held_skip 10 (some 62) rfl rfl (by kernel_rfl) (by kernel_rfl) (by kernel_rfl) noPanic_put rfl hS ?_
            simp only [Act.put, List.setIfInBounds_toArray, List.set_cons_zero, List.set_cons_succ]
            refine held_skip 11 (some 63) rfl rfl (by kernel_rfl) (by kernel_rfl) (by kernel_rfl) noPanic_put rfl hS ?_
            simp only [Act.put, List.setIfInBounds_toArray, List.set_cons_zero, List.set_cons_succ]
            refine held_valS 12 (some 64) rfl rfl (by kernel_rfl) (by kernel_rfl) (by kernel_rfl) noPanic_put rfl (.bool false) (fun _ _ => by go_simp) hS ?_
            simp only [Act.put, List.setIfInBounds_toArray, List.set_cons_zero, List.set_cons_succ]
            refine held_store_num 13 (by kernel_rfl) rfl rfl (.tmp 2) (.tmp 52) rfl rfl w.heap.size true k p m q rfl rfl false 0 zP 0 zP A9 zP_len zP_len hp hq ?_
            intro wf hNf hgf hsf
            refine ⟨⟨RowAt.grown hS.1 hgf (by simp; omega), trivial⟩, ?_⟩
            refine held_assign 14 (some 3) (by kernel_rfl) rfl rfl _ rfl rfl _ rfl ⟨RowAt.grown hS.1 hgf (by simp; omega), trivial⟩ ?_
            simp only [Act.put, List.setIfInBounds_toArray, List.set_cons_zero, List.set_cons_succ]
            refine wpAnyH_done (by kernel_rfl) ?_ _
            refine NoPanic.normal ?_
            go_wp2
            refine bodyPost_ret (v := .tuple #[.agg (numC true k p m q), .bool false]) (res_num_tmp Tryz.results69 _ _ w.heap.size _ _ _ _ _ _ rfl rfl hNf hp hq) rfl ⟨?_, ?_⟩
            · exact ⟨true, k, m, p, q, by rw [HN.out], hp, hq, fun h => by rw [HN.out] at h; cases h⟩
            · exact hB9.drew.grown hgf (by have := hB9.size; simp; omega) (by intro k hk; cases hk; omega)
          | true =>
            subst hob
            have hgu : goodB u.data.toList = true := by rw [HO.out.2]; exact hokb.symm
            have rb : Rep (dval (underN s.data.toList)) m q := by rw [← HO.out.2]; exact hRb.rep hgu
            have hm : m ≤ 100 := by
              have h1 : dval (underN s.data.toList) < 10 ^ 600 := by rw [← HO.out.2]; exact good_lt' hgu
              exact rb.fits.2 h1
            have RB := hide rb
            have HGU : Hid (goodB (underN s.data.toList) = true) := hokb.symm
            clear hokb hRb hgu rb
            by_cases hm0 : m = 0
            · have HN : Hid (okT s.data.toList = false) := by
                unfold Hid okT; rw [← HBK.out, HGU.out, HSG.out, RB.out.zero_iff.1 hm0]; rfl
              have hm0' : ¬ 0 < (m : Int) := by omega
              clear hm0
              go_wp2_with (refine store_bottom rfl _ _ rfl rfl b0 m q rfl rfl true k p i r M8 hp hr hq ?_; intro w9 M9 hg9 hs9)
              have A9 : NumAt w9 w.heap.size false 0 zP 0 zP := RowAt.grown A8 hg9 (by simp; omega)
              have hB9 : Below w.heap.size w w9 := hB8.grown hg9 (by have := hB8.size; omega) (by intro k hk; cases hk; omega)
              have hlt9 := M9.lt
              have hltA := A9.lt
              have hwb : w.heap.size < b0 := by omega
              clear A8 M8 hB8 hg9
              refine held_begin (fun w' => NumAt w' b0 true k p m q ∧ True) (by kernel_rfl) ?_
              have hS : NumAt w9.drew b0 true k p m q ∧ True := ⟨M9, trivial⟩
              refine held_valS 0 (some 52) rfl rfl (by kernel_rfl) (by kernel_rfl) (by kernel_rfl) noPanic_put rfl (.agg (numC true k p m q)) (fun _ h => run_row_num _ rfl b0 rfl true k p m q h.1 hp hq) hS ?_
              simp only [Act.put, List.setIfInBounds_toArray, List.set_cons_zero, List.set_cons_succ]
              refine held_valS 1 (some 53) rfl rfl (by kernel_rfl) (by kernel_rfl) (by kernel_rfl) noPanic_put rfl (.bool true) (fun _ _ => by go_simp) hS ?_
              simp only [Act.put, List.setIfInBounds_toArray, List.set_cons_zero, List.set_cons_succ]
              refine held_valS 2 (some 54) rfl rfl (by kernel_rfl) (by kernel_rfl) (by kernel_rfl) noPanic_put rfl (.bool true) (fun _ _ => by go_simp) hS ?_
              simp only [Act.put, List.setIfInBounds_toArray, List.set_cons_zero, List.set_cons_succ]
              refine held_valS 3 (some 55) rfl rfl (by kernel_rfl) (by kernel_rfl) (by kernel_rfl) noPanic_put rfl (.pointer (some ⟨b0, 206, none⟩)) (fun _ _ => by go_simp) hS ?_
              simp only [Act.put, List.setIfInBounds_toArray, List.set_cons_zero, List.set_cons_succ]
              refine held_valS 4 (some 56) rfl rfl (by kernel_rfl) (by kernel_rfl) (by kernel_rfl) noPanic_put rfl (.pointer (some ⟨b0, 206, none⟩)) (fun _ _ => by go_simp) hS ?_
              simp only [Act.put, List.setIfInBounds_toArray, List.set_cons_zero, List.set_cons_succ]
              refine held_valS 5 (some 57) rfl rfl (by kernel_rfl) (by kernel_rfl) (by kernel_rfl) noPanic_put rfl (.int .i64 m) (fun _ h => by have c := h.1.bused hp; go_simp) hS ?_
              simp only [Act.put, List.setIfInBounds_toArray, List.set_cons_zero, List.set_cons_succ]
              refine held_valS 6 (some 58) rfl rfl (by kernel_rfl) (by kernel_rfl) (by kernel_rfl) noPanic_put rfl (.bool false) (fun _ _ => by go_simp; omega) hS ?_
              simp only [Act.put, List.setIfInBounds_toArray, List.set_cons_zero, List.set_cons_succ]
              refine held_valS 7 (some 59) rfl rfl (by kernel_rfl) (by kernel_rfl) (by kernel_rfl) noPanic_put rfl (.bool false) (fun _ _ => by go_simp) hS ?_
              simp only [Act.put, List.setIfInBounds_toArray, List.set_cons_zero, List.set_cons_succ]
              refine held_valS 8 (some 60) rfl rfl (by kernel_rfl) (by kernel_rfl) (by kernel_rfl) noPanic_put rfl (.bool false) (fun _ _ => by go_simp) hS ?_
              simp only [Act.put, List.setIfInBounds_toArray, List.set_cons_zero, List.set_cons_succ]
              refine held_skip 9 (some 61) rfl rfl (by kernel_rfl) (by kernel_rfl) (by kernel_rfl) noPanic_put rfl hS ?_
              simp only [Act.put, List.setIfInBounds_toArray, List.set_cons_zero, List.set_cons_succ]
              refine held_skip 10 (some 62) rfl rfl (by kernel_rfl) (by kernel_rfl) (by kernel_rfl) noPanic_put rfl hS ?_
              simp only [Act.put, List.setIfInBounds_toArray, List.set_cons_zero, List.set_cons_succ]
              refine held_skip 11 (some 63) rfl rfl (by kernel_rfl) (by kernel_rfl) (by kernel_rfl) noPanic_put rfl hS ?_
              simp only [Act.put, List.setIfInBounds_toArray, List.set_cons_zero, List.set_cons_succ]
              refine held_valS 12 (some 64) rfl rfl (by kernel_rfl) (by kernel_rfl) (by kernel_rfl) noPanic_put rfl (.bool false) (fun _ _ => by go_simp) hS ?_
              simp only [Act.put, List.setIfInBounds_toArray, List.set_cons_zero, List.set_cons_succ]
              refine held_store_num 13 (by kernel_rfl) rfl rfl (.tmp 2) (.tmp 52) rfl rfl w.heap.size true k p m q rfl rfl false 0 zP 0 zP A9 zP_len zP_len hp hq ?_
              intro wf hNf hgf hsf
              refine ⟨⟨RowAt.grown hS.1 hgf (by simp; omega), trivial⟩, ?_⟩
              refine held_assign 14 (some 3) (by kernel_rfl) rfl rfl _ rfl rfl _ rfl ⟨RowAt.grown hS.1 hgf (by simp; omega), trivial⟩ ?_
              simp only [Act.put, List.setIfInBounds_toArray, List.set_cons_zero, List.set_cons_succ]
              refine wpAnyH_done (by kernel_rfl) ?_ _
              refine NoPanic.normal ?_
              go_wp2
              refine bodyPost_ret (v := .tuple #[.agg (numC true k p m q), .bool false]) (res_num_tmp Tryz.results69 _ _ w.heap.size _ _ _ _ _ _ rfl rfl hNf hp hq) rfl ⟨?_, ?_⟩
              · exact ⟨true, k, m, p, q, by rw [HN.out], hp, hq, fun h => by rw [HN.out] at h; cases h⟩
              · exact hB9.drew.grown hgf (by have := hB9.size; simp; omega) (by intro k hk; cases hk; omega)
            · have hm0' : 0 < (m : Int) := by omega
              have HU0 : Hid (dval (underN s.data.toList) ≠ 0) := fun e => hm0 (RB.out.zero_iff.2 e)
              go_wp2_with (refine store_bottom rfl _ _ rfl rfl b0 m q rfl rfl true k p i r M8 hp hr hq ?_; intro w9 M9 hg9 hs9)
              have A9 : NumAt w9 w.heap.size false 0 zP 0 zP := RowAt.grown A8 hg9 (by simp; omega)
              have hB9 : Below w.heap.size w w9 := hB8.grown hg9 (by have := hB8.size; omega) (by intro k hk; cases hk; omega)
              have hlt9 := M9.lt
              have hltA := A9.lt
              have hwb : w.heap.size < b0 := by omega
              clear A8 M8 hB8 hg9
              refine held_begin (fun w' => NumAt w' b0 true k p m q ∧ True) (by kernel_rfl) ?_
              have hS : NumAt w9.drew b0 true k p m q ∧ True := ⟨M9, trivial⟩
              refine held_valS 0 (some 52) rfl rfl (by kernel_rfl) (by kernel_rfl) (by kernel_rfl) noPanic_put rfl (.agg (numC true k p m q)) (fun _ h => run_row_num _ rfl b0 rfl true k p m q h.1 hp hq) hS ?_
              simp only [Act.put, List.setIfInBounds_toArray, List.set_cons_zero, List.set_cons_succ]
              refine held_valS 1 (some 53) rfl rfl (by kernel_rfl) (by kernel_rfl) (by kernel_rfl) noPanic_put rfl (.bool true) (fun _ _ => by go_simp) hS ?_
              simp only [Act.put, List.setIfInBounds_toArray, List.set_cons_zero, List.set_cons_succ]
              refine held_valS 2 (some 54) rfl rfl (by kernel_rfl) (by kernel_rfl) (by kernel_rfl) noPanic_put rfl (.bool true) (fun _ _ => by go_simp) hS ?_
              simp only [Act.put, List.setIfInBounds_toArray, List.set_cons_zero, List.set_cons_succ]
              refine held_valS 3 (some 55) rfl rfl (by kernel_rfl) (by kernel_rfl) (by kernel_rfl) noPanic_put rfl (.pointer (some ⟨b0, 206, none⟩)) (fun _ _ => by go_simp) hS ?_
              simp only [Act.put, List.setIfInBounds_toArray, List.set_cons_zero, List.set_cons_succ]
              refine held_valS 4 (some 56) rfl rfl (by kernel_rfl) (by kernel_rfl) (by kernel_rfl) noPanic_put rfl (.pointer (some ⟨b0, 206, none⟩)) (fun _ _ => by go_simp) hS ?_
              simp only [Act.put, List.setIfInBounds_toArray, List.set_cons_zero, List.set_cons_succ]
              refine held_valS 5 (some 57) rfl rfl (by kernel_rfl) (by kernel_rfl) (by kernel_rfl) noPanic_put rfl (.int .i64 m) (fun _ h => by have c := h.1.bused hp; go_simp) hS ?_
              simp only [Act.put, List.setIfInBounds_toArray, List.set_cons_zero, List.set_cons_succ]
              refine held_valS 6 (some 58) rfl rfl (by kernel_rfl) (by kernel_rfl) (by kernel_rfl) noPanic_put rfl (.bool true) (fun _ _ => by go_simp; omega) hS ?_
              simp only [Act.put, List.setIfInBounds_toArray, List.set_cons_zero, List.set_cons_succ]
              refine held_valS 7 (some 59) rfl rfl (by kernel_rfl) (by kernel_rfl) (by kernel_rfl) noPanic_put rfl (.bool true) (fun _ _ => by go_simp) hS ?_
              simp only [Act.put, List.setIfInBounds_toArray, List.set_cons_zero, List.set_cons_succ]
              refine held_valS 8 (some 60) rfl rfl (by kernel_rfl) (by kernel_rfl) (by kernel_rfl) noPanic_put rfl (.bool true) (fun _ _ => by go_simp) hS ?_
              simp only [Act.put, List.setIfInBounds_toArray, List.set_cons_zero, List.set_cons_succ]
              refine held_valS 9 (some 61) rfl rfl (by kernel_rfl) (by kernel_rfl) (by kernel_rfl) noPanic_put rfl (.agg (numC true k p m q)) (fun _ h => run_row_num _ rfl b0 rfl true k p m q h.1 hp hq) hS ?_
              simp only [Act.put, List.setIfInBounds_toArray, List.set_cons_zero, List.set_cons_succ]
              refine held_call 10 (some 62) (by kernel_rfl) rfl rfl rfl 49 #[.agg (numC true k p m q)] (by go_simp) _ (isWhole_any (n := 0) true _ hp RB.out) ?_
              rintro e w10 ⟨rfl, hW10⟩
              have hW10 : Below w9.heap.size w9 w10 := ⟨hW10.os, hW10.tape, hW10.output, hW10.size, hW10.block⟩
              have hs10 := hW10.size
              have A10 : NumAt w10 w.heap.size false 0 zP 0 zP := RowAt.below A9 hW10 hltA
              have hS : NumAt w10 b0 true k p m q ∧ True := ⟨RowAt.below M9 hW10 hlt9, trivial⟩
              have hB10 : Below w.heap.size w w10 := hB9.trans (hW10.mono hB9.size)
              refine ⟨_, rfl, hS, ?_⟩
              simp only [Act.put, List.setIfInBounds_toArray, List.set_cons_zero, List.set_cons_succ]
              obtain ⟨ow, how⟩ : ∃ ow, ow = decide (dval (underN s.data.toList) = 1) := ⟨_, rfl⟩
              rw [← how]
              have HOW := hide how
              clear how
              refine held_valS 11 (some 63) rfl rfl (by kernel_rfl) (by kernel_rfl) (by kernel_rfl) noPanic_put rfl (.bool (!ow)) (fun _ _ => by cases ow <;> go_simp) hS ?_
              simp only [Act.put, List.setIfInBounds_toArray, List.set_cons_zero, List.set_cons_succ]
              refine held_valS 12 (some 64) rfl rfl (by kernel_rfl) (by kernel_rfl) (by kernel_rfl) noPanic_put rfl (.bool (!ow)) (fun _ _ => by cases ow <;> go_simp) hS ?_
              simp only [Act.put, List.setIfInBounds_toArray, List.set_cons_zero, List.set_cons_succ]
              refine held_store_num 13 (by kernel_rfl) rfl rfl (.tmp 2) (.tmp 52) rfl rfl w.heap.size true k p m q rfl rfl false 0 zP 0 zP A10 zP_len zP_len hp hq ?_
              intro wf hNf hgf hsf
              refine ⟨⟨RowAt.grown hS.1 hgf (by simp; omega), trivial⟩, ?_⟩
              refine held_assign 14 (some 3) (by kernel_rfl) rfl rfl _ rfl rfl _ rfl ⟨RowAt.grown hS.1 hgf (by simp; omega), trivial⟩ ?_
              simp only [Act.put, List.setIfInBounds_toArray, List.set_cons_zero, List.set_cons_succ]
              refine wpAnyH_done (by kernel_rfl) ?_ _
              refine NoPanic.normal ?_
              go_wp2
              refine bodyPost_ret (v := .tuple #[.agg (numC true k p m q), .bool (!ow)]) (res_num_tmp Tryz.results69 _ _ w.heap.size _ _ _ _ _ _ rfl rfl hNf hp hq) rfl ⟨?_, ?_⟩
              · refine ⟨true, k, m, p, q, ?_, hp, hq, fun _ => ⟨HNG.out, RA.out, by unfold botN; rw [← HBK.out]; exact RB.out, hk, hm, hm0⟩⟩
                have : okT s.data.toList = !ow := by
                  unfold okT
                  rw [← HBK.out, HGU.out, HSG.out, decide_eq_true HU0.out, HOW.out]
                  by_cases h1 : dval (underN s.data.toList) = 1 <;> simp [h1]
                rw [this]
              · exact hB10.grown hgf (by have := hB10.size; omega) (by intro k hk; cases hk; omega)
end Go.Proofs.YtmfpnbmfcoahbaaGreatDoor

/-
  What readNum of impl answers.
-/
namespace Go.Proofs.YtmfpnbmfcoahbaaGreatDoor
open Go.RowKit
set_option linter.unusedVariables false

/-- The goal is a list's walk, and nothing else. -/
theorem wpList_id {ops : Array Oper} {rest : List Oper} {o : Oper} {a : Act} {w : World} {Q : Exit → Act → World → Prop} (h : wpList Tryz.prog ops Q (o :: rest) a w) : wpList Tryz.prog ops Q (o :: rest) a w := h

set_option maxHeartbeats 6000000 in
set_option maxRecDepth 100000 in
theorem readNum_any (s : ByteArray) (w : World) (hs : s.size ≤ maxLen) :
    Calls Tryz.prog 43 #[.string s] w fun e w' => ReadN s.data.toList e ∧ Below w.heap.size w w' := by
  have hz := zero_nat.1
  have hz1 := zero_whole.1
  have hz2 := zero_num.1
  have A := NumAt.new w false 0 zP 0 zP
  have hB : Below w.heap.size w (w.alloc (.cells (numC false 0 zP 0 zP) 48)) := (Below.refl _ _).alloc (Nat.le_refl _) _
  have HE := hide (okN_eq s.data.toList)
  go_enter Tryz.func43, Tryz.ntmps43
  go_wp2_with fail
  refine (readTerms_any s _ hs).mono ?_
  rintro e w1 ⟨⟨g, k, j, p, q, rfl, hp, hq, hok⟩, hW1⟩
  have A1 : NumAt w1 w.heap.size false 0 zP 0 zP := RowAt.below A hW1 (by simp)
  have hB1 : Below w.heap.size w w1 := hB.trans (hW1.mono (by simp))
  have hs1 := hW1.size
  simp only [World.size_alloc] at hs1
  have F := NumAt.new w1 false 0 zP 0 zP
  have HOK := hide hok
  clear A hB hW1 hok
  have NO : Hid (okN s.data.toList = false → ReadN s.data.toList (.returned (.tuple #[.agg (numC false 0 zP 0 zP), .bool false]))) := fun h => ⟨false, 0, 0, zP, zP, by rw [h]; rfl, zP_len, zP_len, fun h' => by rw [h] at h'; cases h'⟩
  cases ht : okT s.data.toList with
  | false =>
    have HN : Hid (okN s.data.toList = false) := by unfold Hid; rw [HE.out, ht]; rfl
    clear ht
    go_wp2_with (refine store_num rfl (.tmp 4) (.tmp 9) rfl rfl w1.heap.size g k p j q rfl rfl false 0 zP 0 zP F zP_len zP_len hp hq ?_; intro w2 hN2 hg2 hs2; refine Hid.out ?_)
    have A2 : NumAt w2 w.heap.size false 0 zP 0 zP := (RowAt.old A1 (.cells (numC false 0 zP 0 zP) 48)).grown hg2 (by simp; omega)
    unfold Hid
    go_wp2_with (with_reducible refine wpList_id ?_; first | (refine build_num0 rfl rfl _ rfl ?_) | (refine store_num rfl (.tmp 2) (.tmp 28) rfl rfl w.heap.size false 0 zP 0 zP rfl rfl false 0 zP 0 zP A2 zP_len zP_len zP_len zP_len ?_; intro wf hNf hgf hsf))
    refine bodyPost_ret (v := .tuple #[.agg (numC false 0 zP 0 zP), .bool false]) (res_num_tmp Tryz.results43 _ _ w.heap.size _ _ _ _ _ _ rfl rfl hNf zP_len zP_len) rfl ⟨NO.out HN.out, ?_⟩
    exact ((hB1.alloc (by omega) _).grown hg2 (by simp; omega) (by intro k hk; cases hk; omega)).grown hgf (by rw [hs2]; simp; omega) (by intro k hk; cases hk; omega)
  | true =>
    obtain ⟨hg, ra, rb, hk, hj, hj0⟩ := HOK.out ht
    have HT := hide ht
    have RA := hide (And.intro ra rb)
    have HG := hide hg
    clear ra rb ht HOK hg
    go_wp2_with (refine store_num rfl (.tmp 4) (.tmp 9) rfl rfl w1.heap.size g k p j q rfl rfl false 0 zP 0 zP F zP_len zP_len hp hq ?_; intro w2 hN2 hg2 hs2; refine Hid.out ?_)
    unfold Hid
    go_wp2_with (with_reducible refine wpList_id ?_; first | (refine load_num_w rfl _ rfl w1.heap.size rfl g k p j q hN2 hp hq ?_))
    have A2 : NumAt w2 w.heap.size false 0 zP 0 zP := (RowAt.old A1 (.cells (numC false 0 zP 0 zP) 48)).grown hg2 (by simp; omega)
    have hB2 : Below w.heap.size w w2 := (hB1.alloc (by omega) _).grown hg2 (by simp; omega) (by intro k hk; cases hk; omega)
    have hs2' : w2.heap.size = w1.heap.size + 1 := by rw [hs2]; simp
    clear A1 hB1 F hg2 hs2
    refine (isWhole_any (n := 0) g _ hp RA.out.2).mono ?_
    rintro e w3 ⟨rfl, hW3⟩
    have hs3 := hW3.size
    have A3 : NumAt w3 w.heap.size false 0 zP 0 zP := RowAt.below A2 hW3 (by omega)
    have M3 : NumAt w3 w1.heap.size g k p j q := RowAt.below hN2 hW3 (by omega)
    have hB3 : Below w.heap.size w w3 := hB2.trans (hW3.mono (by omega))
    clear A2 hN2 hB2 hW3
    by_cases hu1 : botN s.data.toList = 1
    · have HN : Hid (okN s.data.toList = true) := by unfold Hid; rw [HE.out, HT.out, decide_eq_true hu1]; rfl
      have HRD : Hid (ReadN s.data.toList (.returned (.tuple #[.agg (numC g k p j q), .bool true]))) := ⟨g, k, j, p, q, by rw [HN.out], hp, hq, fun _ => ⟨HG.out, RA.out.1, RA.out.2, hk, hj, hj0⟩⟩
      rw [decide_eq_true hu1]
      clear hu1
      go_wp2_with (with_reducible refine wpList_id ?_; first | (refine load_num rfl _ rfl w1.heap.size rfl g k p j q M3 hp hq ?_) | (refine store_num rfl _ _ rfl rfl w.heap.size g k p j q rfl rfl false 0 zP 0 zP A3 zP_len zP_len hp hq ?_; intro wf hNf hgf hsf))
      refine bodyPost_ret (v := .tuple #[.agg (numC g k p j q), .bool true]) (res_num_tmp Tryz.results43 _ _ w.heap.size _ _ _ _ _ _ rfl rfl hNf hp hq) rfl ⟨HRD.out, ?_⟩
      exact hB3.grown hgf (by have := hB3.size; omega) (by intro k hk; cases hk; omega)
    · rw [decide_eq_false hu1]
      have HU1 := hide hu1
      clear hu1
      go_wp2_with (with_reducible refine wpList_id ?_; first | (refine load_mid_w rfl _ rfl w1.heap.size 1 rfl k p M3.size hp ?_) | (refine load_mid_w rfl _ rfl w1.heap.size 206 rfl j q (M3.bottom hp) hq ?_))
      refine (gcd_any _ RA.out.1 RA.out.2 (by omega) (by omega)).mono ?_
      rintro e w4 ⟨c, cc, rfl, hRc, hW4⟩
      have hs4 := hW4.size
      have A4 : NumAt w4 w.heap.size false 0 zP 0 zP := RowAt.below A3 hW4 (by omega)
      have M4 : NumAt w4 w1.heap.size g k p j q := RowAt.below M3 hW4 (by omega)
      have hB4 : Below w.heap.size w w4 := hB3.trans (hW4.mono (by omega))
      have HRc := hide hRc
      clear A3 M3 hB3 hW4 hRc
      go_wp2_with fail
      refine (isOne_any _ HRc.out).mono ?_
      rintro e w5 ⟨rfl, hW5⟩
      have A5 : NumAt w5 w.heap.size false 0 zP 0 zP := RowAt.below A4 hW5 (by omega)
      have M5 : NumAt w5 w1.heap.size g k p j q := RowAt.below M4 hW5 (by omega)
      have hB5 : Below w.heap.size w w5 := hB4.trans (hW5.mono (by omega))
      clear A4 M4 hB4 hW5
      by_cases hg1 : Nat.gcd (topN s.data.toList) (botN s.data.toList) = 1
      · rw [decide_eq_true hg1]
        have HN : Hid (okN s.data.toList = true) := by unfold Hid; rw [HE.out, HT.out, decide_eq_true hg1]; simp
        have HRD : Hid (ReadN s.data.toList (.returned (.tuple #[.agg (numC g k p j q), .bool true]))) := ⟨g, k, j, p, q, by rw [HN.out], hp, hq, fun _ => ⟨HG.out, RA.out.1, RA.out.2, hk, hj, hj0⟩⟩
        clear hg1
        go_wp2_with (with_reducible refine wpList_id ?_; first | (refine load_num rfl _ rfl w1.heap.size rfl g k p j q M5 hp hq ?_) | (refine store_num rfl _ _ rfl rfl w.heap.size g k p j q rfl rfl false 0 zP 0 zP A5 zP_len zP_len hp hq ?_; intro wf hNf hgf hsf))
        refine bodyPost_ret (v := .tuple #[.agg (numC g k p j q), .bool true]) (res_num_tmp Tryz.results43 _ _ w.heap.size _ _ _ _ _ _ rfl rfl hNf hp hq) rfl ⟨HRD.out, ?_⟩
        exact hB5.grown hgf (by have := hB5.size; omega) (by intro k hk; cases hk; omega)
      · rw [decide_eq_false hg1]
        have HN : Hid (okN s.data.toList = false) := by unfold Hid; rw [HE.out, HT.out, decide_eq_false hg1, decide_eq_false HU1.out]; rfl
        clear hg1
        go_wp2_with (with_reducible refine wpList_id ?_; first | (refine build_num0 rfl rfl _ rfl ?_) | (refine store_num rfl (.tmp 2) (.tmp 28) rfl rfl w.heap.size false 0 zP 0 zP rfl rfl false 0 zP 0 zP A5 zP_len zP_len zP_len zP_len ?_; intro wf hNf hgf hsf))
        refine bodyPost_ret (v := .tuple #[.agg (numC false 0 zP 0 zP), .bool false]) (res_num_tmp Tryz.results43 _ _ w.heap.size _ _ _ _ _ _ rfl rfl hNf zP_len zP_len) rfl ⟨NO.out HN.out, ?_⟩
        exact hB5.grown hgf (by have := hB5.size; omega) (by intro k hk; cases hk; omega)
end Go.Proofs.YtmfpnbmfcoahbaaGreatDoor

/-
  What impl.readNums answers: two texts as fractions.
-/
namespace Go.Proofs.YtmfpnbmfcoahbaaGreatDoor
open Go.RowKit
set_option linter.unusedVariables false

/-- A fraction is read whole, ahead of all else. -/
theorem held_load_num {ops : Array Oper} {Q : Exit → Act → World → Prop} {md : Region.Mode} {S : World → Prop} {o : Oper} {fuel : Nat} {listed : Array Bool} {a : Act} {w : World} (i : Nat) (d : Option Tmp) (hi : ops[i]? = some o) (hd : o.dst = d) (hs : Region.noSelect ops = true) (hf : Region.free md ops listed i = true) (hr : (Region.ready md ops listed).contains i = true)
    (hQ : ∀ c a d v w, Q (.panic c) (Act.put a d v) w → Q (.panic c) a w) (hw : Region.wanted o (yielded ops a.tmps) = true) (x : Operand) (ho : o.op = .load 48 x)
    (b : Nat) (hx : a.eval x = .pointer (some ⟨b, 0, none⟩)) (g : Bool) (u : Int) (p : List Int) (v : Int) (q : List Int) (hN : ∀ w, S w → NumAt w b g u p v q) (hl : p.length = 204) (hm : q.length = 204) (hS : S w)
    (h : wpAnyH Tryz.prog md ops Q S fuel (listed.setIfInBounds i true) (a.put d (.agg (numC g u p v q))) w) : wpAnyH Tryz.prog md ops Q S (fuel + 1) listed a w := by
  subst hd
  exact wpAnyH_take hi hs hf hr (fun c a w => hQ c a _ _ w) (.inl ⟨hw, fun w hw' => by
    unfold execOp
    simp only [ho, hx, Instr.loadAt, Instr.sureAddr, Sem.run_bind, Sem.run_pure, Result.andThen_ok, run_loadVar_row w b 48 48 (numC g u p v q) (0, 0) _ (hN w hw') Tryz.underlying48 rfl (num_info g u p v q hl hm)]⟩) hS h

theorem res_num2_tmp {fn : Func} {x y u : Tmp} (h : fn.results = #[.cell x 48, .cell y 48, .tmp u]) (tmps : Array Value) (w : World) (b c : Nat) (g g' : Bool) (n m n' m' : Int) (p q p' q' : List Int) (v : Value)
    (hx : tmps.getD x undef = .pointer (some ⟨b, 0, none⟩)) (hy : tmps.getD y undef = .pointer (some ⟨c, 0, none⟩)) (hv : tmps.getD u undef = v) (hN : NumAt w b g n p m q) (hM : NumAt w c g' n' p' m' q') (hl : p.length = 204) (hm : q.length = 204) (hl' : p'.length = 204) (hm' : q'.length = 204) :
    (results fn tmps).run Tryz.prog w = .ok (.tuple #[.agg (numC g n p m q), .agg (numC g' n' p' m' q'), v]) w := by
  have e1 := run_loadVar_row w b 48 48 (numC g n p m q) (0, 0) _ hN Tryz.underlying48 rfl (num_info g n p m q hl hm)
  have e2 := run_loadVar_row w c 48 48 (numC g' n' p' m' q') (0, 0) _ hM Tryz.underlying48 rfl (num_info g' n' p' m' q' hl' hm')
  have hx' : tmps[x]?.getD undef = .pointer (some ⟨b, 0, none⟩) := by simpa using hx
  have hy' : tmps[y]?.getD undef = .pointer (some ⟨c, 0, none⟩) := by simpa using hy
  have hv' : tmps[u]?.getD undef = v := by simpa using hv
  simp [results, h, hx', hy', hv', asAddr, e1, e2]

/-- What is read of a text. -/
def OneN (l : List UInt8) (g : Bool) (k j : Nat) (p q : List Int) : Prop := p.length = 204 ∧ q.length = 204 ∧ (okN l = true → g = negN l ∧ Rep (topN l) k p ∧ Rep (botN l) j q ∧ k ≤ 100 ∧ j ≤ 100 ∧ j ≠ 0)

set_option maxHeartbeats 1000000 in
set_option maxRecDepth 100000 in
theorem readNums_any (a b : ByteArray) (w : World) (hsa : a.size ≤ maxLen) (hsb : b.size ≤ maxLen) :
    Calls Tryz.prog 19 #[.string a, .string b] w fun e w' => ∃ (g g' : Bool) (k j k' j' : Nat) (p q p' q' : List Int), e = .returned (.tuple #[.agg (numC g k p j q), .agg (numC g' k' p' j' q'), .bool (okN a.data.toList && okN b.data.toList)]) ∧ OneN a.data.toList g k j p q ∧ OneN b.data.toList g' k' j' p' q' ∧ Below w.heap.size w w' := by
  have hz := zero_num.1
  have A : NumAt ((w.alloc (.cells (numC false 0 zP 0 zP) 48)).alloc (.cells (numC false 0 zP 0 zP) 48)) w.heap.size false 0 zP 0 zP := RowAt.old (NumAt.new w false 0 zP 0 zP) (.cells (numC false 0 zP 0 zP) 48)
  have B := NumAt.new (w.alloc (.cells (numC false 0 zP 0 zP) 48)) false 0 zP 0 zP
  have hB : Below w.heap.size w ((w.alloc (.cells (numC false 0 zP 0 zP) 48)).alloc (.cells (numC false 0 zP 0 zP) 48)) := ((Below.refl _ _).alloc (Nat.le_refl _) _).alloc (by simp) _
  simp only [World.size_alloc] at B
  go_enter Tryz.func19, Tryz.ntmps19
  go_wp2_with fail
  refine (readNum_any a _ hsa).mono ?_
  rintro e w1 ⟨⟨g, k, j, p, q, rfl, hp, hq, hR⟩, hW1⟩
  obtain ⟨oa, hoa⟩ : ∃ oa, oa = okN a.data.toList := ⟨_, rfl⟩
  rw [← hoa]
  have HA : Hid (OneN a.data.toList g k j p q) := ⟨hp, hq, hR⟩
  have HOA := hide hoa
  have A1 : NumAt w1 w.heap.size false 0 zP 0 zP := RowAt.below A hW1 (by simp; omega)
  have B1 : NumAt w1 (w.heap.size + 1) false 0 zP 0 zP := RowAt.below B hW1 (by simp)
  have hB1 : Below w.heap.size w w1 := hB.trans (hW1.mono (by simp; omega))
  have hs1 := hW1.size
  simp only [World.size_alloc] at hs1
  clear A B hB hW1 hoa hR
  have C1 := NumAt.new w1 false 0 zP 0 zP
  go_wp2_with (refine store_num rfl _ _ rfl rfl w1.heap.size g k p j q rfl rfl false 0 zP 0 zP C1 zP_len zP_len hp hq ?_; intro w2 hN2 hg2 hs2)
  refine (readNum_any b _ hsb).mono ?_
  rintro e w3 ⟨⟨g', k', j', p', q', rfl, hp', hq', hR'⟩, hW3⟩
  obtain ⟨ob, hob⟩ : ∃ ob, ob = okN b.data.toList := ⟨_, rfl⟩
  rw [← hob]
  have HB : Hid (OneN b.data.toList g' k' j' p' q') := ⟨hp', hq', hR'⟩
  have HOB := hide hob
  have hs3 := hW3.size
  have hlt2 := RowAt.lt hN2
  have A3 : NumAt w3 w.heap.size false 0 zP 0 zP := RowAt.below (RowAt.grown (RowAt.old A1 (.cells (numC false 0 zP 0 zP) 48)) hg2 (by simp; omega)) hW3 (by rw [hs2]; simp; omega)
  have B3 : NumAt w3 (w.heap.size + 1) false 0 zP 0 zP := RowAt.below (RowAt.grown (RowAt.old B1 (.cells (numC false 0 zP 0 zP) 48)) hg2 (by simp; omega)) hW3 (by rw [hs2]; simp; omega)
  have C3 : NumAt w3 w1.heap.size g k p j q := RowAt.below hN2 hW3 hlt2
  have hB3 : Below w.heap.size w w3 := ((hB1.alloc (by omega) _).grown hg2 (by simp; omega) (by intro k hk; cases hk; omega)).trans (hW3.mono (by rw [hs2]; simp; omega))
  rw [hs2] at hs3
  simp only [World.size_alloc] at hs3
  clear A1 B1 C1 hB1 hN2 hg2 hs2 hW3 hlt2 hob hR'
  have D3 := NumAt.new w3 false 0 zP 0 zP
  go_wp2_with (refine store_num rfl _ _ rfl rfl w3.heap.size g' k' p' j' q' rfl rfl false 0 zP 0 zP D3 zP_len zP_len hp' hq' ?_; intro w4 hN4 hg4 hs4)
  have hs4' : w4.heap.size = w3.heap.size + 1 := by rw [hs4]; simp
  have A4 : NumAt w4 w.heap.size false 0 zP 0 zP := RowAt.grown (RowAt.old A3 (.cells (numC false 0 zP 0 zP) 48)) hg4 (by simp; omega)
  have B4 : NumAt w4 (w.heap.size + 1) false 0 zP 0 zP := RowAt.grown (RowAt.old B3 (.cells (numC false 0 zP 0 zP) 48)) hg4 (by simp; omega)
  have C4 : NumAt w4 w1.heap.size g k p j q := RowAt.grown (RowAt.old C3 (.cells (numC false 0 zP 0 zP) 48)) hg4 (by simp; omega)
  have hB4 : Below w.heap.size w w4 := (hB3.alloc (by omega) _).grown hg4 (by simp; omega) (by intro k hk; cases hk; omega)
  clear A3 B3 C3 D3 hB3 hg4 hs4
  clear hz
  have HE : Hid ((okN a.data.toList && okN b.data.toList) = (oa && ob)) := by unfold Hid; rw [← HOA.out, ← HOB.out]
  cases oa with
  | true =>
    refine held_begin (fun w' => NumAt w' w1.heap.size g k p j q ∧ NumAt w' w3.heap.size g' k' p' j' q') (by kernel_rfl) ?_
    have hS : NumAt w4.drew w1.heap.size g k p j q ∧ NumAt w4.drew w3.heap.size g' k' p' j' q' := ⟨C4, hN4⟩
    refine held_load_num 0 (some 21) rfl rfl (by kernel_rfl) (by kernel_rfl) (by kernel_rfl) noPanic_put rfl _ rfl w1.heap.size rfl g k p j q (fun _ h => h.1) hp hq hS ?_
    simp only [Act.put, List.setIfInBounds_toArray, List.set_cons_zero, List.set_cons_succ]
    refine held_load_num 1 (some 22) rfl rfl (by kernel_rfl) (by kernel_rfl) (by kernel_rfl) noPanic_put rfl _ rfl w3.heap.size rfl g' k' p' j' q' (fun _ h => h.2) hp' hq' hS ?_
    simp only [Act.put, List.setIfInBounds_toArray, List.set_cons_zero, List.set_cons_succ]
    refine held_val 2 (some 23) rfl rfl (by kernel_rfl) (by kernel_rfl) (by kernel_rfl) noPanic_put rfl (.bool true) (fun _ => rfl) hS ?_
    simp only [Act.put, List.setIfInBounds_toArray, List.set_cons_zero, List.set_cons_succ]
    refine held_val 3 (some 24) rfl rfl (by kernel_rfl) (by kernel_rfl) (by kernel_rfl) noPanic_put rfl (.bool true) (fun _ => rfl) hS ?_
    simp only [Act.put, List.setIfInBounds_toArray, List.set_cons_zero, List.set_cons_succ]
    refine held_val 4 (some 25) rfl rfl (by kernel_rfl) (by kernel_rfl) (by kernel_rfl) noPanic_put rfl (.bool ob) (fun _ => rfl) hS ?_
    simp only [Act.put, List.setIfInBounds_toArray, List.set_cons_zero, List.set_cons_succ]
    refine held_val 5 (some 26) rfl rfl (by kernel_rfl) (by kernel_rfl) (by kernel_rfl) noPanic_put rfl (.bool ob) (fun _ => rfl) hS ?_
    simp only [Act.put, List.setIfInBounds_toArray, List.set_cons_zero, List.set_cons_succ]
    refine held_store_num 6 (by kernel_rfl) rfl rfl _ _ rfl rfl w.heap.size g k p j q rfl rfl false 0 zP 0 zP A4 zP_len zP_len hp hq ?_
    intro w5 hN5 hg5 hs5
    have hC5 : NumAt w5 w1.heap.size g k p j q := RowAt.grown (w := w4.drew) C4 hg5 (by simp; omega)
    have hD5 : NumAt w5 w3.heap.size g' k' p' j' q' := RowAt.grown (w := w4.drew) hN4 hg5 (by simp; omega)
    refine ⟨⟨hC5, hD5⟩, ?_⟩
    have B5 : NumAt w5 (w.heap.size + 1) false 0 zP 0 zP := RowAt.grown (w := w4.drew) B4 hg5 (by simp)
    refine held_store_num 7 (by kernel_rfl) rfl rfl _ _ rfl rfl (w.heap.size + 1) g' k' p' j' q' rfl rfl false 0 zP 0 zP B5 zP_len zP_len hp' hq' ?_
    intro w6 hN6 hg6 hs6
    have hS6 : NumAt w6 w1.heap.size g k p j q ∧ NumAt w6 w3.heap.size g' k' p' j' q' := ⟨RowAt.grown hC5 hg6 (by simp; omega), RowAt.grown hD5 hg6 (by simp; omega)⟩
    refine ⟨hS6, ?_⟩
    refine held_assign 8 (some 6) (by kernel_rfl) rfl rfl _ rfl rfl (.bool ob) rfl hS6 ?_
    simp only [Act.put, List.setIfInBounds_toArray, List.set_cons_zero, List.set_cons_succ]
    refine wpAnyH_done (by kernel_rfl) ?_ _
    refine NoPanic.normal ?_
    have M6 : NumAt w6 w.heap.size g k p j q := RowAt.grown hN5 hg6 (by simp)
    go_wp2
    refine bodyPost_ret (v := .tuple #[.agg (numC g k p j q), .agg (numC g' k' p' j' q'), .bool ob]) (res_num2_tmp Tryz.results19 _ _ w.heap.size (w.heap.size + 1) _ _ _ _ _ _ _ _ _ _ _ rfl rfl rfl M6 hN6 hp hq hp' hq') rfl ⟨g, g', k, j, k', j', p, q, p', q', by rw [HE.out]; rfl, HA.out, HB.out, ?_⟩
    have hB5 : Below w.heap.size w w5 := hB4.drew.grown hg5 (by have := hB4.size; simp; omega) (by intro k hk; cases hk; omega)
    exact hB5.grown hg6 (by have := hB5.size; omega) (by intro k hk; cases hk; omega)
  | false =>
    refine held_begin (fun w' => NumAt w' w1.heap.size g k p j q ∧ NumAt w' w3.heap.size g' k' p' j' q') (by kernel_rfl) ?_
    have hS : NumAt w4.drew w1.heap.size g k p j q ∧ NumAt w4.drew w3.heap.size g' k' p' j' q' := ⟨C4, hN4⟩
    refine held_load_num 0 (some 21) rfl rfl (by kernel_rfl) (by kernel_rfl) (by kernel_rfl) noPanic_put rfl _ rfl w1.heap.size rfl g k p j q (fun _ h => h.1) hp hq hS ?_
    simp only [Act.put, List.setIfInBounds_toArray, List.set_cons_zero, List.set_cons_succ]
    refine held_load_num 1 (some 22) rfl rfl (by kernel_rfl) (by kernel_rfl) (by kernel_rfl) noPanic_put rfl _ rfl w3.heap.size rfl g' k' p' j' q' (fun _ h => h.2) hp' hq' hS ?_
    simp only [Act.put, List.setIfInBounds_toArray, List.set_cons_zero, List.set_cons_succ]
    refine held_val 2 (some 23) rfl rfl (by kernel_rfl) (by kernel_rfl) (by kernel_rfl) noPanic_put rfl (.bool false) (fun _ => rfl) hS ?_
    simp only [Act.put, List.setIfInBounds_toArray, List.set_cons_zero, List.set_cons_succ]
    refine held_val 3 (some 24) rfl rfl (by kernel_rfl) (by kernel_rfl) (by kernel_rfl) noPanic_put rfl (.bool false) (fun _ => rfl) hS ?_
    simp only [Act.put, List.setIfInBounds_toArray, List.set_cons_zero, List.set_cons_succ]
    refine held_skip 4 (some 25) rfl rfl (by kernel_rfl) (by kernel_rfl) (by kernel_rfl) noPanic_put rfl hS ?_
    simp only [Act.put, List.setIfInBounds_toArray, List.set_cons_zero, List.set_cons_succ]
    refine held_val 5 (some 26) rfl rfl (by kernel_rfl) (by kernel_rfl) (by kernel_rfl) noPanic_put rfl (.bool false) (fun _ => rfl) hS ?_
    simp only [Act.put, List.setIfInBounds_toArray, List.set_cons_zero, List.set_cons_succ]
    refine held_store_num 6 (by kernel_rfl) rfl rfl _ _ rfl rfl w.heap.size g k p j q rfl rfl false 0 zP 0 zP A4 zP_len zP_len hp hq ?_
    intro w5 hN5 hg5 hs5
    have hC5 : NumAt w5 w1.heap.size g k p j q := RowAt.grown (w := w4.drew) C4 hg5 (by simp; omega)
    have hD5 : NumAt w5 w3.heap.size g' k' p' j' q' := RowAt.grown (w := w4.drew) hN4 hg5 (by simp; omega)
    refine ⟨⟨hC5, hD5⟩, ?_⟩
    have B5 : NumAt w5 (w.heap.size + 1) false 0 zP 0 zP := RowAt.grown (w := w4.drew) B4 hg5 (by simp)
    refine held_store_num 7 (by kernel_rfl) rfl rfl _ _ rfl rfl (w.heap.size + 1) g' k' p' j' q' rfl rfl false 0 zP 0 zP B5 zP_len zP_len hp' hq' ?_
    intro w6 hN6 hg6 hs6
    have hS6 : NumAt w6 w1.heap.size g k p j q ∧ NumAt w6 w3.heap.size g' k' p' j' q' := ⟨RowAt.grown hC5 hg6 (by simp; omega), RowAt.grown hD5 hg6 (by simp; omega)⟩
    refine ⟨hS6, ?_⟩
    refine held_assign 8 (some 6) (by kernel_rfl) rfl rfl _ rfl rfl (.bool false) rfl hS6 ?_
    simp only [Act.put, List.setIfInBounds_toArray, List.set_cons_zero, List.set_cons_succ]
    refine wpAnyH_done (by kernel_rfl) ?_ _
    refine NoPanic.normal ?_
    have M6 : NumAt w6 w.heap.size g k p j q := RowAt.grown hN5 hg6 (by simp)
    go_wp2
    refine bodyPost_ret (v := .tuple #[.agg (numC g k p j q), .agg (numC g' k' p' j' q'), .bool false]) (res_num2_tmp Tryz.results19 _ _ w.heap.size (w.heap.size + 1) _ _ _ _ _ _ _ _ _ _ _ rfl rfl rfl M6 hN6 hp hq hp' hq') rfl ⟨g, g', k, j, k', j', p, q, p', q', by rw [HE.out]; rfl, HA.out, HB.out, ?_⟩
    have hB5 : Below w.heap.size w w5 := hB4.drew.grown hg5 (by have := hB4.size; simp; omega) (by intro k hk; cases hk; omega)
    exact hB5.grown hg6 (by have := hB5.size; omega) (by intro k hk; cases hk; omega)
end Go.Proofs.YtmfpnbmfcoahbaaGreatDoor
