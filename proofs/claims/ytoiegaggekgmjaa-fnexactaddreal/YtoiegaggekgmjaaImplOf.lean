/-
  What real of impl's nums and impl.RealOfNum answer.
-/
import Derived.Test.YtoiegaggekgmjaaPkImplTwo2
import Derived.Test.YtoiegaggekgmjaaImplReal
import Derived.Test.YtoiegaggekgmjaaPkNumTimes
namespace Go.Proofs.Ytoiegaggekgmjaa
open Go.RowKit
set_option linter.unusedVariables false

theorem wp_mid_whole {o : Oper} {a : Act} {w : World} {K : Act → World → Prop} {Q : Exit → Act → World → Prop} (x : Operand) (ho : o.op = .load 45 x) (b off : Nat) (hx : a.eval x = .pointer (some ⟨b, off, none⟩)) (g : Bool) (u : Int) (p : List Int) (hr : w.rangeAt b off (Value.bool g :: natL u p)) (hl : p.length = 204)
    (h : K (a.put o.dst (.agg (wholeC g u p))) w) : o.wp Try.prog a w K Q := by
  unfold Oper.wp
  rw [run_mid_whole x ho b off hx g u p hr hl]
  simp only [Oper.upon]
  exact h
theorem load_mid_whole_w {ops : Array Oper} {rest : List Oper} {o : Oper} {a : Act} {w : World} {Q : Exit → Act → World → Prop} (hw : Region.wanted o (yielded ops a.tmps) = true) (x : Operand) (ho : o.op = .load 45 x)
    (b off : Nat) (hx : a.eval x = .pointer (some ⟨b, off, none⟩)) (g : Bool) (u : Int) (p : List Int) (hr : w.rangeAt b off (Value.bool g :: natL u p)) (hl : p.length = 204)
    (h : wpList Try.prog ops Q rest (a.put o.dst (.agg (wholeC g u p))) w) : wpList Try.prog ops Q (o :: rest) a w := by
  refine wpList_step fun K hK => ?_
  simp only [hw, if_true]
  unfold Oper.wp
  rw [run_mid_whole x ho b off hx g u p hr hl]
  simp only [Oper.upon]
  exact hK _ _ h
theorem wpList_idO {ops : Array Oper} {rest : List Oper} {a : Act} {w : World} {Q : Exit → Act → World → Prop} (h : wpList Try.prog ops Q rest a w) : wpList Try.prog ops Q rest a w := h

set_option maxHeartbeats 4000000 in
set_option maxRecDepth 100000 in
theorem real_any {n m k j : Nat} {p q : List Int} (g nn : Bool) (w : World) (hP : Rep n k p) (hQ : Rep m j q) (hk : k ≤ 100) (hj : j ≤ 100) (hn : n < 2 ^ 1000) (hm : m ≠ 0) :
    Calls Try.prog 35 #[.agg (numC g k p j q), .bool nn] w fun e w' => (∃ R : Nat, e = .returned (.agg #[.bool (g || (decide (n = 0) && nn)), .int .i64 (manOf R : Nat), .int .i64 (expOf R)]) ∧ Near n m R) ∧ Below w.heap.size w w' := by
  have hz := zero_real.1
  have lp := hP.len
  have lq := hQ.len
  have A := RowAt.old (NumAt.new w g k p j q) (.cells #[.bool false, .int .i64 0, .int .i64 0] 25)
  have B := RowAt.new (w.alloc (.cells (numC g k p j q) 47)) 25 #[.bool false, .int .i64 0, .int .i64 0]
  have hB : Below w.heap.size w ((w.alloc (.cells (numC g k p j q) 47)).alloc (.cells #[.bool false, .int .i64 0, .int .i64 0] 25)) := ((Below.refl _ _).alloc (Nat.le_refl _) _).alloc (by simp) _
  simp only [World.size_alloc] at B
  have hws : ((w.alloc (.cells (numC g k p j q) 47)).alloc (.cells #[.bool false, .int .i64 0, .int .i64 0] 25)).heap.size = w.heap.size + 1 + 1 := by simp
  have c0 := NumAt.neg A
  have HP := hide (And.intro hP (And.intro hQ (And.intro hn hm)))
  obtain ⟨ng, hng⟩ : ∃ ng, ng = (g || (decide (n = 0) && nn)) := ⟨_, rfl⟩
  have HNG := hide hng
  have HK0 := hide (hP.zero_iff)
  rw [← hng]
  clear hP hQ hn hm hng
  go_enter Try.func35, Try.ntmps35
  generalize hw0 : (w.alloc (.cells (numC g k p j q) 47)).alloc (.cells #[.bool false, .int .i64 0, .int .i64 0] 25) = w0 at A B hB hws c0
  cases g with
  | true =>
    have HN2 : Hid (ng = true) := by unfold Hid; rw [HNG.out]; rfl
    go_wp2_with fail
    clear hw0 c0
    refine wp_mid_nat (.tmp 20) rfl w.heap.size 1 rfl k p (NumAt.size A) lp ?_
    go_wp2_with (first | (refine load_mid_nat rfl (.tmp 22) rfl w.heap.size 206 rfl j q (NumAt.bottom A lp) lq ?_))
    refine (nearestRank_any w0 HP.out.1 HP.out.2.1 hk hj HP.out.2.2.1 HP.out.2.2.2).mono ?_
    rintro e w1 ⟨⟨r, R, rfl, hr, hN, hrb⟩, hW1⟩
    have HR := hide (And.intro hr hN)
    have hs1 := hW1.size
    have B1 := RowAt.below B hW1 (by omega)
    have hB1 : Below w.heap.size w w1 := hB.trans (hW1.mono (by omega))
    clear hr hN A B hB hW1
    go_wp2_with fail
    refine (realAt_any true R r w1 HR.out.1 hrb).mono ?_
    rintro e w2 ⟨rfl, hW2⟩
    have B2 := RowAt.below B1 hW2 (by omega)
    have hB2 : Below w.heap.size w w2 := hB1.trans (hW2.mono (by omega))
    clear B1 hB1 hW2
    go_wp2_with (with_reducible refine wpList_idO ?_; refine store_3 rfl 25 _ _ rfl rfl zero_real.2 (w.heap.size + 1) _ rfl (real_one _ _ _) rfl rfl _ rfl B2 ?_; intro w3 hR3 hg3 hs3)
    refine bodyPost_ret (res_real Try.results35 _ _ (w.heap.size + 1) _ _ _ rfl hR3) rfl ⟨⟨R, by rw [HN2.out], HR.out.2⟩, hB2.grown hg3 hB2.size (by intro k hk; cases hk; omega)⟩
  | false =>
    go_wp2_with fail
    clear hw0 c0
    refine wp_mid_whole (.tmp 10) rfl w.heap.size 0 rfl false k p (NumAt.whole A) lp ?_
    go_wp2_with fail
    refine (sign_any (k := k) (p := p) false w0).mono ?_
    rintro e wa ⟨rfl, hWa⟩
    have hsa := hWa.size
    have Aa : NumAt wa w.heap.size false k p j q := RowAt.below A hWa (by omega)
    have Ba := RowAt.below B hWa (by omega)
    have hBa : Below w.heap.size w wa := hB.trans (hWa.mono (by omega))
    have hsa' : w.heap.size + 1 + 1 ≤ wa.heap.size := by omega
    clear A B hB hWa
    by_cases hk0 : k = 0
    · have hsg : sgn false k = 0 := if_pos hk0
      have HN2 : Hid (ng = nn) := by unfold Hid; rw [HNG.out, decide_eq_true (HK0.out.1 hk0)]; rfl
      rw [hsg]
      clear hsg hk0
      go_wp2_with fail
      refine wp_mid_nat (.tmp 20) rfl w.heap.size 1 rfl k p (NumAt.size Aa) lp ?_
      go_wp2_with (first | (refine load_mid_nat rfl (.tmp 22) rfl w.heap.size 206 rfl j q (NumAt.bottom Aa lp) lq ?_))
      refine (nearestRank_any wa HP.out.1 HP.out.2.1 hk hj HP.out.2.2.1 HP.out.2.2.2).mono ?_
      rintro e w1 ⟨⟨r, R, rfl, hr, hN, hrb⟩, hW1⟩
      have HR := hide (And.intro hr hN)
      have hs1 := hW1.size
      have B1 := RowAt.below Ba hW1 (by omega)
      have hB1 : Below w.heap.size w w1 := hBa.trans (hW1.mono (by omega))
      clear hr hN Aa Ba hBa hW1
      go_wp2_with fail
      refine (realAt_any nn R r w1 HR.out.1 hrb).mono ?_
      rintro e w2 ⟨rfl, hW2⟩
      have B2 := RowAt.below B1 hW2 (by omega)
      have hB2 : Below w.heap.size w w2 := hB1.trans (hW2.mono (by omega))
      clear B1 hB1 hW2
      go_wp2_with (with_reducible refine wpList_idO ?_; refine store_3 rfl 25 _ _ rfl rfl zero_real.2 (w.heap.size + 1) _ rfl (real_one _ _ _) rfl rfl _ rfl B2 ?_; intro w3 hR3 hg3 hs3)
      refine bodyPost_ret (res_real Try.results35 _ _ (w.heap.size + 1) _ _ _ rfl hR3) rfl ⟨⟨R, by rw [HN2.out], HR.out.2⟩, hB2.grown hg3 hB2.size (by intro k hk; cases hk; omega)⟩
    · have hsg : sgn false k = 1 := if_neg hk0
      have HN2 : Hid (ng = false) := by unfold Hid; rw [HNG.out, decide_eq_false (fun h => hk0 (HK0.out.2 h))]; rfl
      rw [hsg]
      clear hsg hk0
      go_wp2_with fail
      refine wp_mid_nat (.tmp 20) rfl w.heap.size 1 rfl k p (NumAt.size Aa) lp ?_
      go_wp2_with (first | (refine load_mid_nat rfl (.tmp 22) rfl w.heap.size 206 rfl j q (NumAt.bottom Aa lp) lq ?_))
      refine (nearestRank_any wa HP.out.1 HP.out.2.1 hk hj HP.out.2.2.1 HP.out.2.2.2).mono ?_
      rintro e w1 ⟨⟨r, R, rfl, hr, hN, hrb⟩, hW1⟩
      have HR := hide (And.intro hr hN)
      have hs1 := hW1.size
      have B1 := RowAt.below Ba hW1 (by omega)
      have hB1 : Below w.heap.size w w1 := hBa.trans (hW1.mono (by omega))
      clear hr hN Aa Ba hBa hW1
      go_wp2_with fail
      refine (realAt_any false R r w1 HR.out.1 hrb).mono ?_
      rintro e w2 ⟨rfl, hW2⟩
      have B2 := RowAt.below B1 hW2 (by omega)
      have hB2 : Below w.heap.size w w2 := hB1.trans (hW2.mono (by omega))
      clear B1 hB1 hW2
      go_wp2_with (with_reducible refine wpList_idO ?_; refine store_3 rfl 25 _ _ rfl rfl zero_real.2 (w.heap.size + 1) _ rfl (real_one _ _ _) rfl rfl _ rfl B2 ?_; intro w3 hR3 hg3 hs3)
      refine bodyPost_ret (res_real Try.results35 _ _ (w.heap.size + 1) _ _ _ rfl hR3) rfl ⟨⟨R, by rw [HN2.out], HR.out.2⟩, hB2.grown hg3 hB2.size (by intro k hk; cases hk; omega)⟩
end Go.Proofs.Ytoiegaggekgmjaa
