/-
  What wholeOf and fraction of impl answer.
-/
import Derived.Test.YtcdidibphaemoaaWhole
import Derived.Test.YtcdidibphaemoaaImplGcd
import Derived.Test.YtcdidibphaemoaaIsOneNat
namespace Go.Proofs.Ytcdidibphaemoaa
open Go.RowKit
set_option linter.unusedVariables false

theorem res_whole {fn : Func} {x : Tmp} (h : fn.results = #[.cell x 32]) (tmps : Array Value) (w : World) (b : Nat) (g : Bool) (n : Int) (p : List Int)
    (hp : tmps.getD x undef = .pointer (some ⟨b, 0, none⟩)) (hN : WholeAt w b g n p) (hl : p.length = 204) : (results fn tmps).run Try.prog w = .ok (.agg (wholeC g n p)) w :=
  results_cell_row h tmps w b 32 (wholeC g n p) (0, 0) _ hp hN Try.underlying32 rfl (whole_info g n p hl)
theorem res_num {fn : Func} {x : Tmp} (h : fn.results = #[.cell x 34]) (tmps : Array Value) (w : World) (b : Nat) (g : Bool) (n : Int) (p : List Int) (m : Int) (q : List Int)
    (hp : tmps.getD x undef = .pointer (some ⟨b, 0, none⟩)) (hN : NumAt w b g n p m q) (hl : p.length = 204) (hm : q.length = 204) : (results fn tmps).run Try.prog w = .ok (.agg (numC g n p m q)) w :=
  results_cell_row h tmps w b 34 (numC g n p m q) (0, 0) _ hp hN Try.underlying34 rfl (num_info g n p m q hl hm)

set_option maxHeartbeats 1000000 in
set_option maxRecDepth 100000 in
theorem wholeOf_any (g : Bool) (k : Nat) (p : List Int) (w : World) (hp : p.length = 204) :
    Calls Try.prog 47 #[.bool g, .agg (natC k p)] w fun e w' => e = .returned (.agg (wholeC (g && decide (0 < k)) k p)) ∧ Below w.heap.size w w' := by
  have hz := zero_nat.1
  have hz1 := zero_whole.1
  have A := (NatAt.new w k p).old (.cells (wholeC false 0 zP) 32)
  have C : WholeAt ((w.alloc (.cells (natC k p) 30)).alloc (.cells (wholeC false 0 zP) 32)) (w.heap.size + 1) false 0 zP := by
    have := WholeAt.new (w.alloc (.cells (natC k p) 30)) false 0 zP
    rw [World.size_alloc] at this; exact this
  have hB : Below w.heap.size w ((w.alloc (.cells (natC k p) 30)).alloc (.cells (wholeC false 0 zP) 32)) := ((Below.refl _ _).alloc (Nat.le_refl _) _).alloc (by simp) _
  have a0 := A.c0
  cases g with
  | true =>
    by_cases h : 0 < (k : Int)
    · have hd : decide (0 < k) = true := decide_eq_true (by omega)
      rw [hd]
      go_enter Try.func47, Try.ntmps47
      go_wp2_with (first | (refine load_nat rfl _ rfl w.heap.size rfl k p A hp ?_) | (refine build_whole rfl _ _ rfl _ rfl true k p hp rfl rfl ?_) | (refine store_whole rfl _ _ rfl rfl (w.heap.size + 1) true k p rfl rfl false 0 zP C zP_len hp ?_; intro w1 hN1 hg1 hs1))
      refine bodyPost_ret (v := .agg (wholeC true k p)) (res_whole Try.results47 _ _ (w.heap.size + 1) _ _ _ rfl hN1 hp) rfl ⟨rfl, ?_⟩
      exact hB.grown hg1 (by simp; omega) (by intro k hk; cases hk; omega)
    · have hd : decide (0 < k) = false := decide_eq_false (by omega)
      rw [hd]
      go_enter Try.func47, Try.ntmps47
      go_wp2_with (first | (refine load_nat rfl _ rfl w.heap.size rfl k p A hp ?_) | (refine build_whole rfl _ _ rfl _ rfl false k p hp rfl rfl ?_) | (refine store_whole rfl _ _ rfl rfl (w.heap.size + 1) false k p rfl rfl false 0 zP C zP_len hp ?_; intro w1 hN1 hg1 hs1))
      refine bodyPost_ret (v := .agg (wholeC false k p)) (res_whole Try.results47 _ _ (w.heap.size + 1) _ _ _ rfl hN1 hp) rfl ⟨rfl, ?_⟩
      exact hB.grown hg1 (by simp; omega) (by intro k hk; cases hk; omega)
  | false =>
    rw [Bool.false_and]
    go_enter Try.func47, Try.ntmps47
    go_wp2_with (first | (refine load_nat rfl _ rfl w.heap.size rfl k p A hp ?_) | (refine build_whole rfl _ _ rfl _ rfl false k p hp rfl rfl ?_) | (refine store_whole rfl _ _ rfl rfl (w.heap.size + 1) false k p rfl rfl false 0 zP C zP_len hp ?_; intro w1 hN1 hg1 hs1))
    refine bodyPost_ret (v := .agg (wholeC false k p)) (res_whole Try.results47 _ _ (w.heap.size + 1) _ _ _ rfl hN1 hp) rfl ⟨rfl, ?_⟩
    exact hB.grown hg1 (by simp; omega) (by intro k hk; cases hk; omega)

end Go.Proofs.Ytcdidibphaemoaa
