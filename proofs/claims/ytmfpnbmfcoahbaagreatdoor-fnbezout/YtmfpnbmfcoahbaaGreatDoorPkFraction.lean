/-
  The texts Fraction, IsOne, HeldMid, one behind the other.
-/
import Derived.Test.YtmfpnbmfcoahbaaGreatDoorWhole
import Derived.Test.YtmfpnbmfcoahbaaGreatDoorPkDivideA

/-
  What wholeOf and fraction of impl answer.
-/
namespace Go.Proofs.YtmfpnbmfcoahbaaGreatDoor
open Go.RowKit
set_option linter.unusedVariables false

theorem res_whole {fn : Func} {x : Tmp} (h : fn.results = #[.cell x 36]) (tmps : Array Value) (w : World) (b : Nat) (g : Bool) (n : Int) (p : List Int)
    (hp : tmps.getD x undef = .pointer (some ⟨b, 0, none⟩)) (hN : WholeAt w b g n p) (hl : p.length = 204) : (results fn tmps).run Tryz.prog w = .ok (.agg (wholeC g n p)) w :=
  results_cell_row h tmps w b 36 (wholeC g n p) (0, 0) _ hp hN Tryz.underlying36 rfl (whole_info g n p hl)
theorem res_num {fn : Func} {x : Tmp} (h : fn.results = #[.cell x 48]) (tmps : Array Value) (w : World) (b : Nat) (g : Bool) (n : Int) (p : List Int) (m : Int) (q : List Int)
    (hp : tmps.getD x undef = .pointer (some ⟨b, 0, none⟩)) (hN : NumAt w b g n p m q) (hl : p.length = 204) (hm : q.length = 204) : (results fn tmps).run Tryz.prog w = .ok (.agg (numC g n p m q)) w :=
  results_cell_row h tmps w b 48 (numC g n p m q) (0, 0) _ hp hN Tryz.underlying48 rfl (num_info g n p m q hl hm)

set_option maxHeartbeats 1000000 in
set_option maxRecDepth 100000 in
theorem wholeOf_any (g : Bool) (k : Nat) (p : List Int) (w : World) (hp : p.length = 204) :
    Calls Tryz.prog 47 #[.bool g, .agg (natC k p)] w fun e w' => e = .returned (.agg (wholeC (g && decide (0 < k)) k p)) ∧ Below w.heap.size w w' := by
  have hz := zero_nat.1
  have hz1 := zero_whole.1
  have A := (NatAt.new w k p).old (.cells (wholeC false 0 zP) 36)
  have C : WholeAt ((w.alloc (.cells (natC k p) 32)).alloc (.cells (wholeC false 0 zP) 36)) (w.heap.size + 1) false 0 zP := by
    have := WholeAt.new (w.alloc (.cells (natC k p) 32)) false 0 zP
    rw [World.size_alloc] at this; exact this
  have hB : Below w.heap.size w ((w.alloc (.cells (natC k p) 32)).alloc (.cells (wholeC false 0 zP) 36)) := ((Below.refl _ _).alloc (Nat.le_refl _) _).alloc (by simp) _
  have a0 := A.c0
  cases g with
  | true =>
    by_cases h : 0 < (k : Int)
    · have hd : decide (0 < k) = true := decide_eq_true (by omega)
      rw [hd]
      go_enter Tryz.func47, Tryz.ntmps47
      go_wp2_with (first | (refine load_nat rfl _ rfl w.heap.size rfl k p A hp ?_) | (refine build_whole rfl _ _ rfl _ rfl true k p hp rfl rfl ?_) | (refine store_whole rfl _ _ rfl rfl (w.heap.size + 1) true k p rfl rfl false 0 zP C zP_len hp ?_; intro w1 hN1 hg1 hs1))
      refine bodyPost_ret (v := .agg (wholeC true k p)) (res_whole Tryz.results47 _ _ (w.heap.size + 1) _ _ _ rfl hN1 hp) rfl ⟨rfl, ?_⟩
      exact hB.grown hg1 (by simp; omega) (by intro k hk; cases hk; omega)
    · have hd : decide (0 < k) = false := decide_eq_false (by omega)
      rw [hd]
      go_enter Tryz.func47, Tryz.ntmps47
      go_wp2_with (first | (refine load_nat rfl _ rfl w.heap.size rfl k p A hp ?_) | (refine build_whole rfl _ _ rfl _ rfl false k p hp rfl rfl ?_) | (refine store_whole rfl _ _ rfl rfl (w.heap.size + 1) false k p rfl rfl false 0 zP C zP_len hp ?_; intro w1 hN1 hg1 hs1))
      refine bodyPost_ret (v := .agg (wholeC false k p)) (res_whole Tryz.results47 _ _ (w.heap.size + 1) _ _ _ rfl hN1 hp) rfl ⟨rfl, ?_⟩
      exact hB.grown hg1 (by simp; omega) (by intro k hk; cases hk; omega)
  | false =>
    rw [Bool.false_and]
    go_enter Tryz.func47, Tryz.ntmps47
    go_wp2_with (first | (refine load_nat rfl _ rfl w.heap.size rfl k p A hp ?_) | (refine build_whole rfl _ _ rfl _ rfl false k p hp rfl rfl ?_) | (refine store_whole rfl _ _ rfl rfl (w.heap.size + 1) false k p rfl rfl false 0 zP C zP_len hp ?_; intro w1 hN1 hg1 hs1))
    refine bodyPost_ret (v := .agg (wholeC false k p)) (res_whole Tryz.results47 _ _ (w.heap.size + 1) _ _ _ rfl hN1 hp) rfl ⟨rfl, ?_⟩
    exact hB.grown hg1 (by simp; omega) (by intro k hk; cases hk; omega)

set_option maxHeartbeats 1000000 in
set_option maxRecDepth 100000 in
theorem fraction_any {n m k j : Nat} {p q : List Int} (g : Bool) (w : World) (hP : Rep n k p) (hQ : Rep m j q) (hj : 0 < j) (hk : k ≤ 202) (hj2 : j ≤ 202) :
    Calls Tryz.prog 46 #[.agg (wholeC g k p), .agg (natC j q)] w fun e w' => ∃ (i l : Nat) (r s : List Int), e = .returned (.agg (numC g i r l s)) ∧ Rep (n / Nat.gcd n m) i r ∧ Rep (m / Nat.gcd n m) l s ∧ Below w.heap.size w w' := by
  have hz := zero_nat.1
  have hz1 := zero_whole.1
  have hz2 := zero_num.1
  have hp := hP.len
  have hq := hQ.len
  have A : WholeAt (((w.alloc (.cells (wholeC g k p) 36)).alloc (.cells (natC j q) 32)).alloc (.cells (numC false 0 zP 0 zP) 48)) w.heap.size g k p := ((WholeAt.new w g k p).old _).old _
  have B := (NatAt.new (w.alloc (.cells (wholeC g k p) 36)) j q).old (.cells (numC false 0 zP 0 zP) 48)
  have C : NumAt (((w.alloc (.cells (wholeC g k p) 36)).alloc (.cells (natC j q) 32)).alloc (.cells (numC false 0 zP 0 zP) 48)) (w.heap.size + 1 + 1) false 0 zP 0 zP := by
    have := NumAt.new ((w.alloc (.cells (wholeC g k p) 36)).alloc (.cells (natC j q) 32)) false 0 zP 0 zP
    simp only [World.size_alloc] at this; exact this
  have hB : Below w.heap.size w (((w.alloc (.cells (wholeC g k p) 36)).alloc (.cells (natC j q) 32)).alloc (.cells (numC false 0 zP 0 zP) 48)) := (((Below.refl _ _).alloc (Nat.le_refl _) _).alloc (by simp) _).alloc (by simp; omega) _
  simp only [World.size_alloc] at B
  have HP := hide hP
  have HQ := hide hQ
  have HG : Hid (0 < Nat.gcd n m) := by
    have h1 : m ≠ 0 := fun e => by have := hQ.zero_iff.2 e; omega
    exact Nat.gcd_pos_of_pos_right n (Nat.pos_of_ne_zero h1)
  clear hP hQ
  go_enter Tryz.func46, Tryz.ntmps46
  go_wp2_with (first | (refine load_mid_nat rfl _ rfl w.heap.size 1 rfl k p A.size hp ?_) | (refine load_nat rfl _ rfl (w.heap.size + 1) rfl j q B hq ?_))
  refine (isOne_any _ HQ.out).mono ?_
  rintro e w0 ⟨rfl, hW0⟩
  have A0 : WholeAt w0 w.heap.size g k p := A.below hW0 (by first | (simp; done) | (simp; omega))
  have B0 := B.below hW0 (by first | (simp; done) | (simp; omega))
  have C0 : NumAt w0 (w.heap.size + 1 + 1) false 0 zP 0 zP := C.below hW0 (by first | (simp; done) | (simp; omega))
  have hs0 := hW0.size
  simp only [World.size_alloc] at hs0
  have hB0 : Below w.heap.size w w0 := hB.trans (hW0.mono (by first | (simp; done) | (simp; omega)))
  clear A B C hB hW0
  by_cases h1 : m = 1
  · have HM := hide h1
    rw [decide_eq_true h1]
    clear h1
    go_wp2_with (first | (refine load_whole rfl _ rfl w.heap.size rfl g k p A0 hp ?_) | (refine load_nat rfl _ rfl (w.heap.size + 1) rfl j q B0 hq ?_) | (refine build_num rfl _ _ rfl _ rfl g k p j q hp hq rfl rfl ?_) | (refine store_num rfl _ _ rfl rfl (w.heap.size + 1 + 1) g k p j q rfl rfl false 0 zP 0 zP C0 zP_len zP_len hp hq ?_; intro w7 hN7 hg7 hs7))
    refine bodyPost_ret (v := .agg (numC g k p j q)) (res_num Tryz.results46 _ _ (w.heap.size + 1 + 1) _ _ _ _ _ rfl hN7 hp hq) rfl ⟨k, j, p, q, rfl, ?_, ?_, ?_⟩
    · rw [HM.out, Nat.gcd_one_right, Nat.div_one]; exact HP.out
    · rw [HM.out, Nat.gcd_one_right, Nat.div_one, ← HM.out]; exact HQ.out
    · exact hB0.grown hg7 (by omega) (by intro k hk; cases hk; omega)
  rw [decide_eq_false h1]
  clear h1
  go_wp2_with (first | (refine load_mid_nat rfl _ rfl w.heap.size 1 rfl k p A0.size hp ?_) | (refine load_nat rfl _ rfl (w.heap.size + 1) rfl j q B0 hq ?_))
  refine (gcd_any _ HP.out HQ.out hk hj2).mono ?_
  rintro e w1 ⟨c, t, rfl, hR, hW1⟩
  have ht := hR.len
  have hcb : 0 < c := Nat.pos_of_ne_zero (fun e => by have := hR.zero_iff.1 e; have := HG.out; omega)
  have HR := hide hR
  have A1 : WholeAt w1 w.heap.size g k p := A0.below hW1 (by omega)
  have B1 := B0.below hW1 (by omega)
  have C1 : NumAt w1 (w.heap.size + 1 + 1) false 0 zP 0 zP := C0.below hW1 (by omega)
  have hs1 := hW1.size
  have hB1 : Below w.heap.size w w1 := hB0.trans (hW1.mono (by omega))
  have F := NatAt.new w1 0 zP
  clear hR A0 B0 C0 hB0 hW1
  go_wp2_with (first | (refine store_nat rfl _ _ rfl rfl w1.heap.size c t rfl rfl 0 zP F zP_len ht ?_; intro w2 hN2 hg2 hs2; have A2 : WholeAt w2 w.heap.size g k p := (RowAt.old A1 (.cells (natC 0 zP) 32)).grown hg2 (by first | (simp; done) | (simp; omega)); have B2 := (B1.old (.cells (natC 0 zP) 32)).grown hg2 (by first | (simp; done) | (simp; omega)); have C2 : NumAt w2 (w.heap.size + 1 + 1) false 0 zP 0 zP := (RowAt.old C1 (.cells (natC 0 zP) 32)).grown hg2 (by first | (simp; done) | (simp; omega))) | (refine load_mid_nat rfl _ rfl w.heap.size 1 rfl k p A2.size hp ?_) | (refine load_nat rfl _ rfl w1.heap.size rfl c t hN2 ht ?_))
  have hs2' : w2.heap.size = w1.heap.size + 1 := by rw [hs2]; simp
  have hB2 : Below w.heap.size w w2 := (hB1.alloc (by omega) _).grown hg2 (by first | (simp; done) | (simp; omega)) (by intro k hk; cases hk; omega)
  clear A1 B1 C1 hB1 F hg2 hs2
  refine (divide_any w2 HP.out HR.out hcb hk).mono ?_
  rintro e w3 ⟨i, i', r, r', rfl, hR1, hR1', hW3⟩
  have hr := hR1.len
  have HR1 := hide hR1
  have A3 : WholeAt w3 w.heap.size g k p := A2.below hW3 (by omega)
  have B3 := B2.below hW3 (by omega)
  have C3 : NumAt w3 (w.heap.size + 1 + 1) false 0 zP 0 zP := C2.below hW3 (by omega)
  have N3 := hN2.below hW3 (by omega)
  have hs3 := hW3.size
  have hB3 : Below w.heap.size w w3 := hB2.trans (hW3.mono (by omega))
  clear hR1 hR1' A2 B2 C2 hN2 hB2 hW3
  go_wp2_with (first | (refine store_size rfl _ _ rfl rfl w.heap.size i r rfl rfl g k p A3 hp hr ?_; intro w4 hA4 hg4 hs4; have B4 := B3.grown hg4 (by first | (simp; done) | (simp; omega)); have C4 : NumAt w4 (w.heap.size + 1 + 1) false 0 zP 0 zP := RowAt.grown C3 hg4 (by first | (simp; done) | (simp; omega)); have N4 := N3.grown hg4 (by first | (simp; done) | (simp; omega))) | (refine load_nat rfl _ rfl (w.heap.size + 1) rfl j q B4 hq ?_) | (refine load_nat rfl _ rfl w1.heap.size rfl c t N4 ht ?_))
  have hB4 : Below w.heap.size w w4 := hB3.grown hg4 (by omega) (by intro k hk; cases hk; omega)
  clear A3 B3 C3 N3 hB3 hg4
  refine (divide_any w4 HQ.out HR.out hcb hj2).mono ?_
  rintro e w5 ⟨l, l', s, s', rfl, hR2, hR2', hW5⟩
  have hs := hR2.len
  have HR2 := hide hR2
  have A5 : WholeAt w5 w.heap.size g i r := hA4.below hW5 (by omega)
  have B5 := B4.below hW5 (by omega)
  have C5 : NumAt w5 (w.heap.size + 1 + 1) false 0 zP 0 zP := C4.below hW5 (by omega)
  have hs5 := hW5.size
  have hB5 : Below w.heap.size w w5 := hB4.trans (hW5.mono (by omega))
  clear hR2 hR2' hA4 B4 C4 N4 hB4 hW5
  go_wp2_with (first | (refine store_nat rfl _ _ rfl rfl (w.heap.size + 1) l s rfl rfl j q B5 hq hs ?_; intro w6 hN6 hg6 hs6; have A6 : WholeAt w6 w.heap.size g i r := RowAt.grown A5 hg6 (by first | (simp; done) | (simp; omega)); have C6 : NumAt w6 (w.heap.size + 1 + 1) false 0 zP 0 zP := RowAt.grown C5 hg6 (by first | (simp; done) | (simp; omega))) | (refine load_whole rfl _ rfl w.heap.size rfl g i r A6 hr ?_) | (refine load_nat rfl _ rfl (w.heap.size + 1) rfl l s hN6 hs ?_) | (refine build_num rfl _ _ rfl _ rfl g i r l s hr hs rfl rfl ?_) | (refine store_num rfl _ _ rfl rfl (w.heap.size + 1 + 1) g i r l s rfl rfl false 0 zP 0 zP C6 zP_len zP_len hr hs ?_; intro w7 hN7 hg7 hs7))
  refine bodyPost_ret (v := .agg (numC g i r l s)) (res_num Tryz.results46 _ _ (w.heap.size + 1 + 1) _ _ _ _ _ rfl hN7 hr hs) rfl ⟨i, l, r, s, rfl, HR1.out, HR2.out, ?_⟩
  exact (hB5.grown hg6 (by omega) (by intro k hk; cases hk; omega)).grown hg7 (by omega) (by intro k hk; cases hk; omega)
end Go.Proofs.YtmfpnbmfcoahbaaGreatDoor

/-
  What isOne of impl's nats and isWhole of its fractions answer.
-/
namespace Go.Proofs.YtmfpnbmfcoahbaaGreatDoor
open Go.RowKit
set_option linter.unusedVariables false

theorem isWhole_any {n m k j : Nat} {p q : List Int} (g : Bool) (w : World) (hp : p.length = 204) (hQ : Rep m j q) :
    Calls Tryz.prog 49 #[.agg (numC g k p j q)] w fun e w' => e = .returned (.bool (decide (m = 1))) ∧ Below w.heap.size w w' := by
  have hq := hQ.len
  have A := NumAt.new w g k p j q
  have hB : Below w.heap.size w (w.alloc (.cells (numC g k p j q) 48)) := (Below.refl _ _).alloc (Nat.le_refl _) _
  have HQ := hide hQ
  clear hQ
  go_enter Tryz.func49, Tryz.ntmps49
  go_wp2_with (refine load_mid_nat rfl _ rfl w.heap.size 206 rfl j q (A.bottom hp) hq ?_)
  refine (isOne_any _ HQ.out).mono ?_
  rintro e w1 ⟨rfl, hW1⟩
  go_wp2
  go_ret
  exact ⟨rfl, hB.trans (hW1.mono (by simp))⟩

theorem wp_mid_nat {o : Oper} {a : Act} {w : World} {K : Act → World → Prop} {Q : Exit → Act → World → Prop} (x : Operand) (ho : o.op = .load 32 x) (b off : Nat) (hx : a.eval x = .pointer (some ⟨b, off, none⟩)) (u : Int) (p : List Int) (hr : w.rangeAt b off (natL u p)) (hl : p.length = 204)
    (h : K (a.put o.dst (.agg (natC u p))) w) : o.wp Tryz.prog a w K Q :=
  wp_load_mid 32 x ho b off hx (natL u p) _ hr Tryz.underlying32 rfl (by rw [nat_info u p hl, natC_eq]; simp) h
theorem wp_row_nat {o : Oper} {a : Act} {w : World} {K : Act → World → Prop} {Q : Exit → Act → World → Prop} (x : Operand) (ho : o.op = .load 32 x) (b : Nat) (hx : a.eval x = .pointer (some ⟨b, 0, none⟩)) (u : Int) (p : List Int) (hN : NatAt w b u p) (hl : p.length = 204)
    (h : K (a.put o.dst (.agg (natC u p))) w) : o.wp Tryz.prog a w K Q :=
  wp_load_row 32 x ho b hx 32 (natC u p) (0, 0) _ hN Tryz.underlying32 rfl (nat_info u p hl) h
theorem wp_row_num {o : Oper} {a : Act} {w : World} {K : Act → World → Prop} {Q : Exit → Act → World → Prop} (x : Operand) (ho : o.op = .load 48 x) (b : Nat) (hx : a.eval x = .pointer (some ⟨b, 0, none⟩)) (g : Bool) (u : Int) (p : List Int) (v : Int) (q : List Int) (hN : NumAt w b g u p v q) (hl : p.length = 204) (hm : q.length = 204)
    (h : K (a.put o.dst (.agg (numC g u p v q))) w) : o.wp Tryz.prog a w K Q :=
  wp_load_row 48 x ho b hx 48 (numC g u p v q) (0, 0) _ hN Tryz.underlying48 rfl (num_info g u p v q hl hm) h
/-- The same for an operation behind a guard that says yes. -/
theorem load_nat_w {ops : Array Oper} {rest : List Oper} {o : Oper} {a : Act} {w : World} {Q : Exit → Act → World → Prop} (hw : Region.wanted o (yielded ops a.tmps) = true) (x : Operand) (ho : o.op = .load 32 x)
    (b : Nat) (hx : a.eval x = .pointer (some ⟨b, 0, none⟩)) (u : Int) (p : List Int) (hN : NatAt w b u p) (hl : p.length = 204)
    (h : wpList Tryz.prog ops Q rest (a.put o.dst (.agg (natC u p))) w) : wpList Tryz.prog ops Q (o :: rest) a w :=
  wpList_step fun K hK => by rw [if_pos hw]; exact wp_row_nat x ho b hx u p hN hl (hK _ _ h)
theorem load_num_w {ops : Array Oper} {rest : List Oper} {o : Oper} {a : Act} {w : World} {Q : Exit → Act → World → Prop} (hw : Region.wanted o (yielded ops a.tmps) = true) (x : Operand) (ho : o.op = .load 48 x)
    (b : Nat) (hx : a.eval x = .pointer (some ⟨b, 0, none⟩)) (g : Bool) (u : Int) (p : List Int) (v : Int) (q : List Int) (hN : NumAt w b g u p v q) (hl : p.length = 204) (hm : q.length = 204)
    (h : wpList Tryz.prog ops Q rest (a.put o.dst (.agg (numC g u p v q))) w) : wpList Tryz.prog ops Q (o :: rest) a w :=
  wpList_step fun K hK => by rw [if_pos hw]; exact wp_row_num x ho b hx g u p v q hN hl hm (hK _ _ h)
theorem load_mid_w {ops : Array Oper} {rest : List Oper} {o : Oper} {a : Act} {w : World} {Q : Exit → Act → World → Prop} (hw : Region.wanted o (yielded ops a.tmps) = true) (x : Operand) (ho : o.op = .load 32 x)
    (b off : Nat) (hx : a.eval x = .pointer (some ⟨b, off, none⟩)) (u : Int) (p : List Int) (hr : w.rangeAt b off (natL u p)) (hl : p.length = 204)
    (h : wpList Tryz.prog ops Q rest (a.put o.dst (.agg (natC u p))) w) : wpList Tryz.prog ops Q (o :: rest) a w :=
  wpList_step fun K hK => by rw [if_pos hw]; exact wp_mid_nat x ho b off hx u p hr hl (hK _ _ h)
theorem NumAt.bused {w : World} {b : Nat} {g : Bool} {u : Int} {p : List Int} {v : Int} {q : List Int} (h : NumAt w b g u p v q) (hp : p.length = 204) : w.cell? ⟨b, 206, none⟩ = some (.int .i64 v) := by
  rw [cell_of_row w b 206 _ _ _ h, num_split2]
  simp only [List.getElem?_toArray, List.append_assoc]
  rw [List.getElem?_append_right (by simp [natL_len, hp])]
  simp [hp, natL]
end Go.Proofs.YtmfpnbmfcoahbaaGreatDoor

/-
  Drawn regions that read a nat or a whole number within a row.
-/
namespace Go.Proofs.YtmfpnbmfcoahbaaGreatDoor
open Go.RowKit
set_option linter.unusedVariables false

theorem run_mid_nat {o : Oper} {a : Act} {w : World} (x : Operand) (ho : o.op = .load 32 x) (b off : Nat) (hx : a.eval x = .pointer (some ⟨b, off, none⟩)) (u : Int) (p : List Int) (hr : w.rangeAt b off (natL u p)) (hl : p.length = 204) :
    (execOp a.eval o).run Tryz.prog w = .ok (.value (.agg (natC u p))) w := by
  have h := run_loadAt_mid (P := Tryz.prog) w b off 32 (natL u p) _ hr Tryz.underlying32 rfl (by rw [nat_info u p hl, natC_eq]; simp)
  unfold execOp
  simp only [ho, hx, Sem.run_bind, h, Result.andThen_ok]
  rfl
theorem run_mid_whole {o : Oper} {a : Act} {w : World} (x : Operand) (ho : o.op = .load 36 x) (b off : Nat) (hx : a.eval x = .pointer (some ⟨b, off, none⟩)) (g : Bool) (u : Int) (p : List Int) (hr : w.rangeAt b off (Value.bool g :: natL u p)) (hl : p.length = 204) :
    (execOp a.eval o).run Tryz.prog w = .ok (.value (.agg (wholeC g u p))) w := by
  have h := run_loadAt_mid (P := Tryz.prog) w b off 36 (Value.bool g :: natL u p) _ hr Tryz.underlying36 rfl (by rw [whole_info g u p hl]; simp [wholeC])
  unfold execOp
  simp only [ho, hx, Sem.run_bind, h, Result.andThen_ok]
  rfl

end Go.Proofs.YtmfpnbmfcoahbaaGreatDoor
