/-
  What floor of impl, impl.FloorNum and spec.FloorNum answer.
-/
import Derived.Test.YteihephciiifbaaDoorReadNum
import Derived.Test.YteihephciiifbaaDoorTellNum
import Derived.Test.YteihephciiifbaaDoorSpecMake
import Derived.Test.YteihephciiifbaaDoorSpecParts
namespace Go.Proofs.YteihephciiifbaaDoor
open Go.RowKit
set_option linter.unusedVariables false

theorem okN_bot {l : List UInt8} (h : okN l = true) : botN l ≠ 0 := by
  unfold okN at h
  unfold botN
  cases hb : brokenN l with
  | false => simp
  | true =>
    rw [hb] at h
    simp only [Bool.and_eq_true, Bool.not_true, Bool.false_or, decide_eq_true_eq] at h
    rw [if_pos rfl]
    exact h.2.2.1
theorem okN_neg {l : List UInt8} (h : okN l = true) (hn : negN l = true) : topN l ≠ 0 := by
  unfold okN at h
  unfold topN
  rw [hn] at h
  simp only [Bool.and_eq_true, Bool.true_and, Bool.not_eq_true', decide_eq_false_iff_not] at h
  exact h.1.2
theorem okN_lt {l : List UInt8} (h : okN l = true) : topN l < 10 ^ 600 := by
  unfold okN at h
  simp only [Bool.and_eq_true] at h
  exact good_lt' h.1.1

/-- The floor's size. -/
def flo (g : Bool) (n m : Nat) : Nat := n / m + if g && decide (n % m ≠ 0) then 1 else 0
theorem flo_le {g : Bool} {n m : Nat} (hg : g = true → n ≠ 0) : flo g n m ≤ n := by
  unfold flo
  cases g with
  | false => simp; exact Nat.div_le_self _ _
  | true =>
    by_cases h : n % m = 0
    · rw [decide_eq_false (by simp [h])]; simp; exact Nat.div_le_self _ _
    · rw [decide_eq_true h]
      have hm : m ≠ 1 := fun e => h (by rw [e]; exact Nat.mod_one _)
      by_cases h0 : m = 0
      · subst h0; simp; have := hg rfl; omega
      · have := Nat.div_lt_self (Nat.pos_of_ne_zero (hg rfl)) (show 1 < m by omega)
        exact this
theorem flo_ne {n m : Nat} (hm : m ≠ 0) (hn : n ≠ 0) : flo true n m ≠ 0 := by
  unfold flo
  by_cases h : n % m = 0
  · rw [decide_eq_false (by simp [h])]
    have := Nat.div_pos (Nat.le_of_dvd (Nat.pos_of_ne_zero hn) (Nat.dvd_of_mod_eq_zero h)) (Nat.pos_of_ne_zero hm)
    exact Nat.ne_of_gt this
  · rw [decide_eq_true h]; simp

def FloorAns (a : ByteArray) (e : Ending) : Prop :=
  (okN a.data.toList = true ∧ TellsN (negN a.data.toList) (flo (negN a.data.toList) (topN a.data.toList) (botN a.data.toList)) 1 e) ∨ (okN a.data.toList = false ∧ Mute e)
theorem FloorAns.same {a : ByteArray} {e e' : Ending} (h : FloorAns a e) (h' : FloorAns a e') : ∃ (s : ByteArray) (o : Bool), e = .returned (.tuple #[.string s, .bool o]) ∧ e' = .returned (.tuple #[.string s, .bool o]) := by
  rcases h with ⟨g1, h⟩ | ⟨g1, h⟩ <;> rcases h' with ⟨g2, h'⟩ | ⟨g2, h'⟩
  · exact h.same h'
  · rw [g1] at g2; cases g2
  · rw [g1] at g2; cases g2
  · exact h.same h'

theorem TellsN.form2 {g : Bool} {n m : Nat} {e : Ending} (h : TellsN g n m e) : ∃ (s : ByteArray) (o : Bool), e = .returned (.tuple #[.string s, .bool o]) := by
  obtain ⟨s, rfl, _, _⟩ := h
  exact ⟨s, _, rfl⟩
theorem run_row_nat {o : Oper} {a : Act} {w : World} (x : Operand) (ho : o.op = .load 35 x) (b : Nat) (hx : a.eval x = .pointer (some ⟨b, 0, none⟩)) (u : Int) (p : List Int) (hN : NatAt w b u p) (hl : p.length = 204) : (execOp a.eval o).run Tryd.prog w = .ok (.value (.agg (natC u p))) w := by
  unfold execOp
  simp only [ho, hx, Instr.loadAt, Instr.sureAddr, Sem.run_bind, Sem.run_pure, Result.andThen_ok, run_loadVar_row w b 35 35 (natC u p) (0, 0) _ hN Tryd.underlying35 rfl (nat_info u p hl)]
theorem run_plus2 {o : Oper} {a : Act} {w : World} (x y : Tmp) (ts : Array TypeId) (ho : o.op = .call { callee := .value (.func 80), args := #[.tmp x, .tmp y], argTypes := ts }) (vx vy : Value) (hx : a.eval (.tmp x) = vx) (hy : a.eval (.tmp y) = vy) : (execOp a.eval o).run Tryd.prog w = .ok (.enter 80 #[vx, vy]) w := by
  have hx' : a.tmps[x]?.getD undef = vx := by simpa [Act.eval] using hx
  have hy' : a.tmps[y]?.getD undef = vy := by simpa [Act.eval] using hy
  unfold execOp
  simp only [ho]
  go_simp

/-- One is added to a variable, in either order of the load and the first call. -/
theorem region_inc {id : Nat} {Q : Exit → Act → World → Prop} {a : Act} {w3 : World} {N : Nat} (ps : String) (B i : Nat) (r : List Int) (hR : Rep N i r) (hi : i ≤ 100) (hx : a.eval (.tmp 3) = .pointer (some ⟨B, 0, none⟩)) (hsz : 30 ≤ a.tmps.size) (hN : NatAt w3 B i r)
    (h : ∀ (c d : Nat) (t u : List Int) (w5 w6 : World), Rep (N + 1) d u → NatAt w6 B d u → Below w3.heap.size w3 w5 → w5.grownBy w6 (some B) → w6.heap.size = w5.heap.size →
      Q .normal (((a.put (some 22) (.agg (natC i r))).put (some 23) (.agg (natC c t))).put (some 24) (.agg (natC d u))) w6) :
    (Code.region id #[{ dst := some 22, op := Op.load 35 (Operand.tmp 3), type := 35, pos := ps, after := #[], guard := none }, { dst := some 23, op := Op.call { callee := Callee.value (Operand.func 78), args := #[Operand.const (Value.int IntKind.i64 1)], argTypes := #[3] }, type := 35, pos := ps, after := #[], guard := none }, { dst := some 24, op := Op.call { callee := Callee.value (Operand.func 80), args := #[Operand.tmp 22, Operand.tmp 23], argTypes := #[35, 35] }, type := 35, pos := ps, after := #[{ on := 0, ground := Ground.data }, { on := 1, ground := Ground.data }, { on := 1, ground := Ground.chain }], guard := none }, { dst := none, op := Op.store 35 (Operand.tmp 3) (Operand.tmp 24), type := 0, pos := ps, after := #[{ on := 2, ground := Ground.data }, { on := 2, ground := Ground.chain }, { on := 0, ground := Ground.phase }, { on := 1, ground := Ground.phase }, { on := 2, ground := Ground.phase }], guard := none }] true).wp Tryd.prog Q a w3 := by
  have hr := hR.len
  have lB := hN.lt
  refine held_begin (fun _ => True) (by kernel_rfl) ?_
  refine wpAnyH_ready (rs := [0, 1]) (by kernel_rfl) (by simp) ?_
  refine ready_val 0 (some 22) rfl rfl rfl (.agg (natC i r)) w3.drew (run_row_nat (.tmp 3) rfl B hx i r hN hr) trivial ?_ (ready_call 1 (some 23) rfl rfl rfl 78 #[.int .i64 1] (by go_simp) _ (natOf_any 1 1 w3.drew rfl (by omega) (by omega)) ?_ AllReadyH.nil)
  · refine held_call 1 (some 23) (by kernel_rfl) rfl rfl rfl 78 #[.int .i64 1] (by go_simp) _ (natOf_any 1 1 w3.drew rfl (by omega) (by omega)) ?_
    rintro e w4 ⟨c, t, rfl, hR4, hW4⟩
    have hW4 : Below w3.heap.size w3 w4 := ⟨hW4.os, hW4.tape, hW4.output, hW4.size, hW4.block⟩
    refine ⟨_, rfl, trivial, ?_⟩
    refine held_call 2 (some 24) (by kernel_rfl) rfl rfl rfl 80 #[.agg (natC i r), .agg (natC c t)] (run_plus2 22 23 _ rfl _ _ (by rw [put_ne _ _ _ _ (by decide), put_eq _ _ _ (by omega)]) (by rw [put_eq _ _ _ (by simp only [put_size]; omega)])) _ (plus_any w4 hR hR4 hi (hR4.fits.2 (one_lt' 600 (by decide)))) ?_
    rintro e w5 ⟨d, u, rfl, hR5, hW5⟩
    have hu := hR5.len
    have hW5' : Below w3.heap.size w3 w5 := hW4.trans (hW5.mono hW4.size)
    refine ⟨_, rfl, trivial, ?_⟩
    refine held_store 3 (by kernel_rfl) rfl rfl (.tmp 3) (.tmp 24) rfl rfl B d u (by rw [put_ne _ _ _ _ (by decide), put_ne _ _ _ _ (by decide), put_ne _ _ _ _ (by decide)]; exact hx) (by rw [put_eq _ _ _ (by simp only [put_size]; omega)]) i r (hN.below hW5' lB) hr hu ?_
    intro w6 hN6 hg6 hs6
    refine ⟨trivial, ?_⟩
    refine wpAnyH_done (by kernel_rfl) ?_ _
    refine NoPanic.normal ?_
    exact h c d t u w5 w6 hR5 hN6 hW5' hg6 hs6
  · rintro e w4 ⟨c, t, rfl, hR4, hW4⟩
    have hW4 : Below w3.heap.size w3 w4 := ⟨hW4.os, hW4.tape, hW4.output, hW4.size, hW4.block⟩
    refine ⟨_, rfl, trivial, ?_⟩
    refine held_load1 0 (some 22) (by kernel_rfl) rfl rfl rfl (.tmp 3) rfl B (by rw [put_ne _ _ _ _ (by decide)]; exact hx) i r (hN.below hW4 lB) hr trivial ?_
    refine held_call 2 (some 24) (by kernel_rfl) rfl rfl rfl 80 #[.agg (natC i r), .agg (natC c t)] (run_plus2 22 23 _ rfl _ _ (by rw [put_eq _ _ _ (by simp only [put_size]; omega)]) (by rw [put_ne _ _ _ _ (by decide), put_eq _ _ _ (by omega)])) _ (plus_any w4 hR hR4 hi (hR4.fits.2 (one_lt' 600 (by decide)))) ?_
    rintro e w5 ⟨d, u, rfl, hR5, hW5⟩
    have hu := hR5.len
    have hW5' : Below w3.heap.size w3 w5 := hW4.trans (hW5.mono hW4.size)
    refine ⟨_, rfl, trivial, ?_⟩
    refine held_store 3 (by kernel_rfl) rfl rfl (.tmp 3) (.tmp 24) rfl rfl B d u (by rw [put_ne _ _ _ _ (by decide), put_ne _ _ _ _ (by decide), put_ne _ _ _ _ (by decide)]; exact hx) (by rw [put_eq _ _ _ (by simp only [put_size]; omega)]) i r (hN.below hW5' lB) hr hu ?_
    intro w6 hN6 hg6 hs6
    refine ⟨trivial, ?_⟩
    refine wpAnyH_done (by kernel_rfl) ?_ _
    refine NoPanic.normal ?_
    have := h c d t u w5 w6 hR5 hN6 hW5' hg6 hs6
    rw [put_comm _ 22 23 _ _ (by decide)] at this
    exact this

set_option maxHeartbeats 1000000 in
set_option maxRecDepth 100000 in
theorem floor_any {n m k j : Nat} {p q : List Int} (g : Bool) (w : World) (hP : Rep n k p) (hQ : Rep m j q) (hk : k ≤ 100) (hj : 0 < j) :
    Calls Tryd.prog 48 #[.agg (numC g k p j q)] w fun e w' => ∃ (i : Nat) (r : List Int), e = .returned (.agg (wholeC g i r)) ∧ Rep (flo g n m) i r ∧ Below w.heap.size w w' := by
  have hz := zero_nat.1
  have hz1 := zero_whole.1
  have hp := hP.len
  have hq := hQ.len
  have A : NumAt ((w.alloc (.cells (numC g k p j q) 42)).alloc (.cells (wholeC false 0 zP) 40)) w.heap.size g k p j q := RowAt.old (NumAt.new w g k p j q) _
  have C : WholeAt ((w.alloc (.cells (numC g k p j q) 42)).alloc (.cells (wholeC false 0 zP) 40)) (w.heap.size + 1) false 0 zP := by
    have := WholeAt.new (w.alloc (.cells (numC g k p j q) 42)) false 0 zP
    simp only [World.size_alloc] at this; exact this
  have hB : Below w.heap.size w ((w.alloc (.cells (numC g k p j q) 42)).alloc (.cells (wholeC false 0 zP) 40)) := ((Below.refl _ _).alloc (Nat.le_refl _) _).alloc (by simp) _
  have HP := hide (And.intro hP hQ)
  clear hP hQ
  go_enter Tryd.func48, Tryd.ntmps48
  go_wp2_with (first | (refine load_mid_nat rfl _ rfl w.heap.size 1 rfl k p A.size hp ?_) | (refine load_mid_nat rfl _ rfl w.heap.size 206 rfl j q (A.bottom hp) hq ?_))
  refine (divide_any _ HP.out.1 HP.out.2 hj (by omega)).mono ?_
  rintro e w1 ⟨i, i', r, r', rfl, hR, hR', hW1⟩
  have hr := hR.len
  have hr' := hR'.len
  have hi : i ≤ 100 := by have := hR.cnt_le HP.out.1 (Nat.div_le_self _ _); omega
  have HR := hide (And.intro hR hR')
  have hs1 := hW1.size
  simp only [World.size_alloc] at hs1
  have A1 : NumAt w1 w.heap.size g k p j q := RowAt.below A hW1 (by simp; omega)
  have C1 : WholeAt w1 (w.heap.size + 1) false 0 zP := RowAt.below C hW1 (by simp)
  have hB1 : Below w.heap.size w w1 := hB.trans (hW1.mono (by simp; omega))
  have F1 := (NatAt.new w1 0 zP).old (.cells (natC 0 zP) 35)
  have F2 := NatAt.new (w1.alloc (.cells (natC 0 zP) 35)) 0 zP
  simp only [World.size_alloc] at F2
  clear A C hB hW1 hR hR'
  by_cases hup : g = true ∧ i' ≠ 0
  · obtain ⟨hg1, hi'⟩ := hup
    have hi'' : (0 : Int) < (i' : Int) := by omega
    subst hg1
    have HF : Hid (flo true n m = n / m + 1) := by
      have : n % m ≠ 0 := fun e => hi' (HR.out.2.zero_iff.2 e)
      unfold Hid flo; rw [decide_eq_true this]; rfl
    go_wp2_with (first | (refine store_nat rfl _ _ rfl rfl w1.heap.size i r rfl rfl 0 zP F1 zP_len hr ?_; intro w2 hN2 hg2 hs2) | (refine store_nat rfl _ _ rfl rfl (w1.heap.size + 1) i' r' rfl rfl 0 zP (F2.grown hg2 (by simp)) zP_len hr' ?_; intro w3 hN3 hg3 hs3; have c3 := hN3.c0; have A3 : NumAt w3 w.heap.size true k p j q := RowAt.grown (RowAt.grown (RowAt.old (RowAt.old A1 (.cells (natC 0 zP) 35)) (.cells (natC 0 zP) 35)) hg2 (by simp; omega)) hg3 (by simp; omega); have n3 := A3.neg))
    have hs3' : w3.heap.size = w1.heap.size + 1 + 1 := by rw [hs3, hs2]; simp
    have hN23 := hN2.grown hg3 (by simp)
    have C3 : WholeAt w3 (w.heap.size + 1) false 0 zP := RowAt.grown (RowAt.grown (RowAt.old (RowAt.old C1 (.cells (natC 0 zP) 35)) (.cells (natC 0 zP) 35)) hg2 (by simp; omega)) hg3 (by simp; omega)
    have hB3 : Below w.heap.size w w3 := (((hB1.alloc (by omega) _).alloc (by simp; omega) _).grown hg2 (by simp; omega) (by intro k hk; cases hk; omega)).grown hg3 (by rw [hs2]; simp; omega) (by intro k hk; cases hk; omega)
    clear A1 C1 hB1 F1 F2 hN2 hg2 hs2 hg3 hs3 c3 n3 hi' hi''
    refine region_inc "l2_num.go:255" w1.heap.size i r HR.out.1 hi rfl (by simp) hN23 ?_
    intro c d t u w5 w6 hR6 hN6 hW5 hg6 hs6
    have hu := hR6.len
    have hs5 := hW5.size
    have A6 : NumAt w6 w.heap.size true k p j q := RowAt.grown (RowAt.below A3 hW5 (by omega)) hg6 (by simp; omega)
    have C6 : WholeAt w6 (w.heap.size + 1) false 0 zP := RowAt.grown (RowAt.below C3 hW5 (by omega)) hg6 (by simp; omega)
    have hB6 : Below w.heap.size w w6 := (hB3.trans (hW5.mono hB3.size)).grown hg6 (by have := hB3.size; omega) (by intro k hk; cases hk; omega)
    have HR6 := hide hR6
    have n6 := A6.neg
    clear hN3 hN23 A3 C3 hB3 hW5 hg6 hR6
    simp only [Act.put, List.setIfInBounds_toArray, List.set_cons_zero, List.set_cons_succ]
    go_wp2_with (first | (refine load_nat rfl _ rfl w1.heap.size rfl d u hN6 hu ?_) | (refine build_whole rfl _ _ rfl _ rfl true d u hu rfl rfl ?_) | (refine store_whole rfl _ _ rfl rfl (w.heap.size + 1) true d u rfl rfl false 0 zP C6 zP_len hu ?_; intro w7 hN7 hg7 hs7))
    refine bodyPost_ret (v := .agg (wholeC true d u)) (res_whole Tryd.results48 _ _ (w.heap.size + 1) _ _ _ rfl hN7 hu) rfl ⟨d, u, rfl, by rw [HF.out]; exact HR6.out, ?_⟩
    exact hB6.grown hg7 (by have := hB6.size; omega) (by intro k hk; cases hk; omega)
  · have hup' : g = false ∨ i' = 0 := by
      cases g with
      | false => exact .inl rfl
      | true => exact .inr (by by_cases h : i' = 0; exact h; exact absurd ⟨rfl, h⟩ hup)
    have HF : Hid (flo g n m = n / m) := by
      unfold Hid flo
      rcases hup' with h | h
      · rw [h]; rfl
      · rw [HR.out.2.zero_iff.1 h]; simp
    clear hup
    rcases hup' with h | h
    · subst h
      go_wp2_with (first | (refine store_nat rfl _ _ rfl rfl w1.heap.size i r rfl rfl 0 zP F1 zP_len hr ?_; intro w2 hN2 hg2 hs2) | (refine store_nat rfl _ _ rfl rfl (w1.heap.size + 1) _ r' rfl rfl 0 zP (F2.grown hg2 (by simp)) zP_len hr' ?_; intro w3 hN3 hg3 hs3; have c3 := hN3.c0; have A3 : NumAt w3 w.heap.size false k p j q := RowAt.grown (RowAt.grown (RowAt.old (RowAt.old A1 (.cells (natC 0 zP) 35)) (.cells (natC 0 zP) 35)) hg2 (by simp; omega)) hg3 (by simp; omega); have n3 := A3.neg) | (refine load_nat rfl _ rfl w1.heap.size rfl i r (hN2.grown hg3 (by simp)) hr ?_) | (refine build_whole rfl _ _ rfl _ rfl false i r hr rfl rfl ?_) | (refine store_whole rfl _ _ rfl rfl (w.heap.size + 1) false i r rfl rfl false 0 zP (RowAt.grown (RowAt.grown (RowAt.old (RowAt.old C1 (.cells (natC 0 zP) 35)) (.cells (natC 0 zP) 35)) hg2 (by simp; omega)) hg3 (by simp; omega)) zP_len hr ?_; intro w6 hN6 hg6 hs6))
      have hB3 : Below w.heap.size w w3 := (((hB1.alloc (by omega) _).alloc (by simp; omega) _).grown hg2 (by simp; omega) (by intro k hk; cases hk; omega)).grown hg3 (by rw [hs2]; simp; omega) (by intro k hk; cases hk; omega)
      refine bodyPost_ret (v := .agg (wholeC false i r)) (res_whole Tryd.results48 _ _ (w.heap.size + 1) _ _ _ rfl hN6 hr) rfl ⟨i, r, rfl, by rw [HF.out]; exact HR.out.1, ?_⟩
      exact hB3.grown hg6 (by rw [hs3, hs2]; simp; omega) (by intro k hk; cases hk; omega)
    · cases g with
      | false =>
        go_wp2_with (first | (refine store_nat rfl _ _ rfl rfl w1.heap.size i r rfl rfl 0 zP F1 zP_len hr ?_; intro w2 hN2 hg2 hs2) | (refine store_nat rfl _ _ rfl rfl (w1.heap.size + 1) _ r' rfl rfl 0 zP (F2.grown hg2 (by simp)) zP_len hr' ?_; intro w3 hN3 hg3 hs3; have c3 := hN3.c0; have A3 : NumAt w3 w.heap.size false k p j q := RowAt.grown (RowAt.grown (RowAt.old (RowAt.old A1 (.cells (natC 0 zP) 35)) (.cells (natC 0 zP) 35)) hg2 (by simp; omega)) hg3 (by simp; omega); have n3 := A3.neg) | (refine load_nat rfl _ rfl w1.heap.size rfl i r (hN2.grown hg3 (by simp)) hr ?_) | (refine build_whole rfl _ _ rfl _ rfl false i r hr rfl rfl ?_) | (refine store_whole rfl _ _ rfl rfl (w.heap.size + 1) false i r rfl rfl false 0 zP (RowAt.grown (RowAt.grown (RowAt.old (RowAt.old C1 (.cells (natC 0 zP) 35)) (.cells (natC 0 zP) 35)) hg2 (by simp; omega)) hg3 (by simp; omega)) zP_len hr ?_; intro w6 hN6 hg6 hs6))
        have hB3 : Below w.heap.size w w3 := (((hB1.alloc (by omega) _).alloc (by simp; omega) _).grown hg2 (by simp; omega) (by intro k hk; cases hk; omega)).grown hg3 (by rw [hs2]; simp; omega) (by intro k hk; cases hk; omega)
        refine bodyPost_ret (v := .agg (wholeC false i r)) (res_whole Tryd.results48 _ _ (w.heap.size + 1) _ _ _ rfl hN6 hr) rfl ⟨i, r, rfl, by rw [HF.out]; exact HR.out.1, ?_⟩
        exact hB3.grown hg6 (by rw [hs3, hs2]; simp; omega) (by intro k hk; cases hk; omega)
      | true =>
        have hi0 : ¬ (0 : Int) < (i' : Int) := by omega
        subst h
        go_wp2_with (first | (refine store_nat rfl _ _ rfl rfl w1.heap.size i r rfl rfl 0 zP F1 zP_len hr ?_; intro w2 hN2 hg2 hs2) | (refine store_nat rfl _ _ rfl rfl (w1.heap.size + 1) _ r' rfl rfl 0 zP (F2.grown hg2 (by simp)) zP_len hr' ?_; intro w3 hN3 hg3 hs3; have c3 := hN3.c0; have A3 : NumAt w3 w.heap.size true k p j q := RowAt.grown (RowAt.grown (RowAt.old (RowAt.old A1 (.cells (natC 0 zP) 35)) (.cells (natC 0 zP) 35)) hg2 (by simp; omega)) hg3 (by simp; omega); have n3 := A3.neg) | (refine load_nat rfl _ rfl w1.heap.size rfl i r (hN2.grown hg3 (by simp)) hr ?_) | (refine build_whole rfl _ _ rfl _ rfl true i r hr rfl rfl ?_) | (refine store_whole rfl _ _ rfl rfl (w.heap.size + 1) true i r rfl rfl false 0 zP (RowAt.grown (RowAt.grown (RowAt.old (RowAt.old C1 (.cells (natC 0 zP) 35)) (.cells (natC 0 zP) 35)) hg2 (by simp; omega)) hg3 (by simp; omega)) zP_len hr ?_; intro w6 hN6 hg6 hs6))
        have hB3 : Below w.heap.size w w3 := (((hB1.alloc (by omega) _).alloc (by simp; omega) _).grown hg2 (by simp; omega) (by intro k hk; cases hk; omega)).grown hg3 (by rw [hs2]; simp; omega) (by intro k hk; cases hk; omega)
        refine bodyPost_ret (v := .agg (wholeC true i r)) (res_whole Tryd.results48 _ _ (w.heap.size + 1) _ _ _ rfl hN6 hr) rfl ⟨i, r, rfl, by rw [HF.out]; exact HR.out.1, ?_⟩
        exact hB3.grown hg6 (by rw [hs3, hs2]; simp; omega) (by intro k hk; cases hk; omega)

set_option maxHeartbeats 1000000 in
set_option maxRecDepth 100000 in
theorem implFloor_any (a : ByteArray) (w : World) (hsa : a.size ≤ maxLen) (hT : Tab w.heap.size w) :
    Calls Tryd.prog 23 #[.string a] w fun e w' => FloorAns a e ∧ Below w.heap.size w w' := by
  have hz := zero_num.1
  have HT : Hid (Tab w.heap.size w) := hT
  clear hT
  go_enter Tryd.func23, Tryd.ntmps23
  go_wp2_with fail
  refine (readNum_any a _ hsa).mono ?_
  rintro e w1 ⟨⟨g, k, j, p, q, rfl, hp, hq, hR⟩, hW1⟩
  have hs1 := hW1.size
  have A := NumAt.new w1 false 0 zP 0 zP
  have hB : Below w.heap.size w (w1.alloc (.cells (numC false 0 zP 0 zP) 42)) := hW1.alloc (by omega) _
  cases hok : okN a.data.toList with
  | true =>
    obtain ⟨hg, ra, rb, hk, hj, hj0⟩ := hR hok
    have RA := hide (And.intro ra rb)
    have HG := hide (And.intro hok hg)
    clear hg ra rb hR hok
    go_wp2_with (first | (refine store_num rfl _ _ rfl rfl w1.heap.size g k p j q rfl rfl false 0 zP 0 zP A zP_len zP_len hp hq ?_; intro w2 hN2 hg2 hs2) | (refine load_num rfl _ rfl w1.heap.size rfl g k p j q hN2 hp hq ?_))
    have hB2 : Below w.heap.size w w2 := hB.grown hg2 (by simp; omega) (by intro k hk; cases hk; omega)
    refine (floor_any g w2 RA.out.1 RA.out.2 hk (Nat.pos_of_ne_zero hj0)).mono ?_
    rintro e w3 ⟨i, r, rfl, hR3, hW3⟩
    have hB3 : Below w.heap.size w w3 := hB2.trans (hW3.mono hB2.size)
    have HT3 : Hid (Tab w3.heap.size w3) := (HT.out.on hB3).up hB3.size
    have HLT : Hid (flo g (topN a.data.toList) (botN a.data.toList) < 10 ^ 600) := Nat.lt_of_le_of_lt (flo_le (fun h => okN_neg HG.out.1 (by rw [← HG.out.2]; exact h))) (okN_lt HG.out.1)
    have hi : i ≤ 100 := hR3.fits.2 HLT.out
    have HR3 := hide hR3
    clear A hB hN2 hg2 hs2 hB2 hW3 hR3
    go_wp2_with fail
    refine (wholeText_any g 10 10 w3 HR3.out hi rfl (by omega) (by omega) HT3.out).mono ?_
    rintro e w4 ⟨s, rfl, hWR, hW4⟩
    have HI : Hid (FloorAns a (.returned (.tuple #[.string s, .bool true]))) := by
      obtain ⟨t, ht, hs⟩ := hWR
      rw [HG.out.2] at ht hs
      refine .inl ⟨HG.out.1, TellsN.yes (by rw [← HG.out.2]; exact HLT.out) (one_lt' 600 (by decide)) ⟨t, ⟨#[49]⟩, ht, InRad.dec one_canon.1 one_canon.2, ?_⟩⟩
      rw [hs, if_pos rfl, List.append_nil]
    clear hWR
    go_wp2
    go_ret2
    exact ⟨HI.out, hB3.trans (hW4.mono hB3.size)⟩
  | false =>
    have HI : Hid (FloorAns a (.returned (.tuple #[.string ⟨#[]⟩, .bool false]))) := .inr ⟨hok, rfl⟩
    clear hok hR
    go_wp2_with (refine store_num rfl _ _ rfl rfl w1.heap.size g k p j q rfl rfl false 0 zP 0 zP A zP_len zP_len hp hq ?_; intro w2 hN2 hg2 hs2)
    go_ret2
    exact ⟨HI.out, hB.grown hg2 (by simp; omega) (by intro k hk; cases hk; omega)⟩

set_option maxHeartbeats 1000000 in
set_option maxRecDepth 100000 in
theorem specFloor_any (a : ByteArray) (w : World) (hsa : a.size ≤ maxLen) :
    Calls Tryd.prog 22 #[.string a] w fun e w' => FloorAns a e ∧ Below w.heap.size w w' := by
  go_enter Tryd.func22, Tryd.ntmps22
  go_wp2_with fail
  refine (l2Parts_any a _ hsa).mono ?_
  rintro e w1 ⟨⟨g, t, u, rfl, hR⟩, hW1⟩
  cases hok : okN a.data.toList with
  | true =>
    obtain ⟨hg, g1, v1, g2, v2⟩ := hR hok
    have hts : t.size ≤ 600 := by have := good_len g1; simpa using this
    have hus : u.size ≤ 600 := by have := good_len g2; simpa using this
    have HG := hideT (And.intro hok (And.intro hg (And.intro (good_canon g1) (good_canon g2))))
    have HV := hideT (And.intro v1 v2)
    have HU0 : Hid (dval u.data.toList ≠ 0) := by unfold Hid; rw [v2]; exact okN_bot hok
    clear hok hg g1 v1 g2 v2 hR
    go_wp2_with fail
    refine (l1Div_any t u w1 (by omega) (by omega) HG.out.2.2.1 HG.out.2.2.2 HU0.out).mono ?_
    rintro e w2 ⟨x, y, rfl, c1, v1, c2, v2, hW2⟩
    have hB2 : Below w.heap.size w w2 := hW1.trans (hW2.mono hW1.size)
    have hxs : x.size ≤ 600 := by have := canon_le_size HG.out.2.2.1 c1 (by rw [v1]; exact Nat.div_le_self _ _); omega
    rw [HV.out.1, HV.out.2] at v1 v2
    have HX := hideT (And.intro (And.intro c1 v1) (And.intro c2 v2))
    clear c1 v1 c2 v2 hW1 hW2
    have key : ∀ (z : ByteArray), dval z.data.toList = flo g (topN a.data.toList) (botN a.data.toList) → ∀ e, TellsN (g && decide (dval z.data.toList ≠ 0)) (dval z.data.toList / Nat.gcd (dval z.data.toList) (dval (⟨#[49]⟩ : ByteArray).data.toList)) (dval (⟨#[49]⟩ : ByteArray).data.toList / Nat.gcd (dval z.data.toList) (dval (⟨#[49]⟩ : ByteArray).data.toList)) e → FloorAns a e := by
      intro z hz e he
      rw [one_canon.2, Nat.gcd_one_right, Nat.div_one, Nat.div_one, hz] at he
      refine .inl ⟨HG.out.1, ?_⟩
      rw [← HG.out.2.1]
      cases g with
      | false => exact he
      | true =>
        have := flo_ne (okN_bot HG.out.1) (okN_neg HG.out.1 HG.out.2.1.symm)
        rw [decide_eq_true this] at he
        exact he
    have KEY := hideT key
    clear key
    by_cases hup : g = true ∧ y.data.toList ≠ [48]
    · obtain ⟨h1, h2⟩ := hup
      subst h1
      have h2' : (y.toList == [48]) = false := str_ne h2
      have HF : Hid (dval x.data.toList + 1 = flo true (topN a.data.toList) (botN a.data.toList)) := by
        have : topN a.data.toList % botN a.data.toList ≠ 0 := by rw [← HX.out.2.2]; exact fun e => h2 ((canon_zero HX.out.2.1).1 e)
        unfold Hid flo; rw [decide_eq_true this, HX.out.1.2]; rfl
      clear h2
      go_wp2_with fail
      refine (l1Add_any x ⟨#[49]⟩ w2 (by omega) (by decide) HX.out.1.1 one_canon.1).mono ?_
      rintro e w3 ⟨z, rfl, hc, hv, hW3⟩
      rw [one_canon.2, HF.out] at hv
      have hzs : z.size ≤ 600 := by
        have h1 : dval z.data.toList < 10 ^ 600 := by
          rw [hv]; exact Nat.lt_of_le_of_lt (flo_le (fun h => okN_neg HG.out.1 HG.out.2.1.symm)) (okN_lt HG.out.1)
        have := (canon_len_le hc 600 (by omega)).2 h1
        simpa using this
      have HZ := hideT (And.intro hc hv)
      have hB3 : Below w.heap.size w w3 := hB2.trans (hW3.mono hB2.size)
      clear hc hv hW3 hB2
      go_wp2_with fail
      refine (l2Make_any true z ⟨#[49]⟩ w3 (by omega) (by decide) HZ.out.1 one_canon.1 (by rw [one_canon.2]; decide)).mono ?_
      rintro e w4 ⟨hTN, hW4⟩
      have HI := hideT (KEY.out z HZ.out.2 e hTN)
      obtain ⟨s, bb, rfl⟩ := hTN.form2
      clear hTN
      go_wp2
      go_ret2
      exact ⟨HI.out, hB3.trans (hW4.mono hB3.size)⟩
    · have hup' : g = false ∨ y.data.toList = [48] := by
        cases g with
        | false => exact .inl rfl
        | true => exact .inr (Classical.byContradiction fun h => hup ⟨rfl, h⟩)
      have HF : Hid (dval x.data.toList = flo g (topN a.data.toList) (botN a.data.toList)) := by
        unfold Hid flo
        rw [HX.out.1.2]
        rcases hup' with h | h
        · rw [h]; rfl
        · have : topN a.data.toList % botN a.data.toList = 0 := by rw [← HX.out.2.2, h]; decide
          rw [this]; simp
      clear hup
      rcases hup' with h | h
      · subst h
        go_wp2_with fail
        refine (l2Make_any false x ⟨#[49]⟩ w2 (by omega) (by decide) HX.out.1.1 one_canon.1 (by rw [one_canon.2]; decide)).mono ?_
        rintro e w4 ⟨hTN, hW4⟩
        have HI := hideT (KEY.out x HF.out e hTN)
        obtain ⟨s, bb, rfl⟩ := hTN.form2
        clear hTN
        go_wp2
        go_ret2
        exact ⟨HI.out, hB2.trans (hW4.mono hB2.size)⟩
      · have h' : (y.toList == [48]) = true := str_eq h
        clear h
        cases g with
        | false =>
          go_wp2_with fail
          refine (l2Make_any false x ⟨#[49]⟩ w2 (by omega) (by decide) HX.out.1.1 one_canon.1 (by rw [one_canon.2]; decide)).mono ?_
          rintro e w4 ⟨hTN, hW4⟩
          have HI := hideT (KEY.out x HF.out e hTN)
          obtain ⟨s, bb, rfl⟩ := hTN.form2
          clear hTN
          go_wp2
          go_ret2
          exact ⟨HI.out, hB2.trans (hW4.mono hB2.size)⟩
        | true =>
          go_wp2_with fail
          refine (l2Make_any true x ⟨#[49]⟩ w2 (by omega) (by decide) HX.out.1.1 one_canon.1 (by rw [one_canon.2]; decide)).mono ?_
          rintro e w4 ⟨hTN, hW4⟩
          have HI := hideT (KEY.out x HF.out e hTN)
          obtain ⟨s, bb, rfl⟩ := hTN.form2
          clear hTN
          go_wp2
          go_ret2
          exact ⟨HI.out, hB2.trans (hW4.mono hB2.size)⟩
  | false =>
    have HI : Hid (FloorAns a (.returned (.tuple #[.string ⟨#[]⟩, .bool false]))) := .inr ⟨hok, rfl⟩
    clear hok hR
    go_wp2
    go_ret2
    exact ⟨HI.out, hW1⟩
end Go.Proofs.YteihephciiifbaaDoor
