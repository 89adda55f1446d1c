/-
  What plus and fits of impl's nats answer.
-/
import Derived.Test.YtjgpjafndaikcaaGreatDoorCarry
namespace Go.Proofs.YtjgpjafndaikcaaGreatDoor
open Go.RowKit
set_option linter.unusedVariables false

/-- The parts of q below j added to those of p. -/
def addTo (p q : List Int) : Nat → List Int
  | 0 => p
  | j + 1 => (addTo p q j).set j ((addTo p q j).getD j 0 + q.getD j 0)

theorem addTo_len (p q : List Int) (j : Nat) : (addTo p q j).length = p.length := by
  induction j with
  | zero => rfl
  | succ j ih => simp [addTo, ih]
theorem addTo_get (p q : List Int) (j i : Nat) (hj : j ≤ p.length) : (addTo p q j).getD i 0 = if i < j then p.getD i 0 + q.getD i 0 else p.getD i 0 := by
  induction j with
  | zero => simp [addTo]
  | succ j ih =>
    unfold addTo
    rw [getD_set _ _ _ _ (by rw [addTo_len]; omega)]
    by_cases e : i = j
    · subst e; rw [if_pos rfl, ih (by omega), if_neg (by omega), if_pos (by omega)]
    · rw [if_neg e, ih (by omega)]
      by_cases h : i < j
      · rw [if_pos h, if_pos (by omega)]
      · rw [if_neg h, if_neg (by omega)]
theorem addTo_val (B : Int) (p q : List Int) (j : Nat) (hj : j ≤ p.length) (hq : j ≤ q.length) : vb B (addTo p q j) = vb B p + vb B (q.take j) := by
  induction j with
  | zero => simp [addTo, vb]
  | succ j ih =>
    unfold addTo
    rw [vb_set _ _ _ _ (by rw [addTo_len]; omega), ih (by omega) (by omega), List.take_succ_eq_append_getElem (by omega), vb_snoc]
    have : q.getD j 0 = q[j] := by simp [List.getD, show j < q.length by omega]
    rw [this, List.length_take, Nat.min_eq_left (by omega)]
    have e : (addTo p q j).getD j 0 + q[j] - (addTo p q j).getD j 0 = q[j] := by omega
    rw [e]; omega
theorem vb_take_out (B : Int) (q : List Int) (m : Nat) (h : m ≤ q.length) (out : ∀ i, m ≤ i → q.getD i 0 = 0) : vb B (q.take m) = vb B q := by
  rw [vb_split B q m h]
  have : vb B (q.drop m) = 0 := vb_zero B _ (fun i => by rw [getD_drop]; exact out _ (by omega))
  rw [this]; simp

theorem res_nat {fn : Func} {x : Tmp} (h : fn.results = #[.cell x 83]) (tmps : Array Value) (w : World) (b : Nat) (n : Int) (p : List Int)
    (hp : tmps.getD x undef = .pointer (some ⟨b, 0, none⟩)) (hN : NatAt w b n p) (hl : p.length = 204) : (results fn tmps).run Tryz.prog w = .ok (.agg (natC n p)) w :=
  results_cell_row h tmps w b 83 (natC n p) (0, 0) _ hp hN Tryz.underlying83 rfl (nat_info n p hl)

set_option maxHeartbeats 1000000 in
set_option maxRecDepth 100000 in
theorem plus_wide {n m k j : Nat} {p q : List Int} (w : World) (hP : Rep n k p) (hQ : Rep m j q) (hk : k ≤ 202) (hj : j ≤ 202) :
    Calls Tryz.prog 146 #[.agg (natC k p), .agg (natC j q)] w fun e w' => ∃ (i : Nat) (r : List Int), e = .returned (.agg (natC i r)) ∧ Rep (n + m) i r ∧ Below w.heap.size w w' := by
  have hz := zero_nat.1
  have hp := hP.len
  have hq := hQ.len
  have A := ((NatAt.new w k p).old (.cells (natC j q) 83)).old (.cells (natC 0 zP) 83)
  have B := (NatAt.new (w.alloc (.cells (natC k p) 83)) j q).old (.cells (natC 0 zP) 83)
  have C := NatAt.new ((w.alloc (.cells (natC k p) 83)).alloc (.cells (natC j q) 83)) 0 zP
  have hB : Below w.heap.size w (((w.alloc (.cells (natC k p) 83)).alloc (.cells (natC j q) 83)).alloc (.cells (natC 0 zP) 83)) := (((Below.refl _ _).alloc (Nat.le_refl _) _).alloc (by simp) _).alloc (by simp; omega) _
  simp only [World.size_alloc] at B C
  have b0 := B.c0
  have HP : Hid (Rep n k p) := hP
  have HQ : Hid (Rep m j q) := hQ
  clear hP hQ
  go_enter Tryz.func146, Tryz.ntmps146
  go_wp2
  go_loopg [8] j (fun g i wr => ∃ t : Nat, g = j - t ∧ t ≤ j ∧ i = .int .i64 (t : Int) ∧ NatAt wr w.heap.size k (addTo p q t) ∧ NatAt wr (w.heap.size + 1) j q ∧ NatAt wr (w.heap.size + 1 + 1) 0 zP ∧ Below w.heap.size w wr)
  case atStart => exact ⟨0, rfl, by omega, rfl, A, B, C, hB⟩
  case round =>
    obtain ⟨t, rfl, ht, rfl, hA, hQt, hC, hW⟩ := hrel
    clear A B C hB b0
    have hl : (addTo p q t).length = 204 := by rw [addTo_len]; exact hp
    by_cases hlt : (t : Int) < (j : Int)
    · have a1 := hA.cs t (by omega)
      have b1 := hQt.cs t (by omega)
      have hfr := hA.fr (1 + t)
      have ht2 : (t : Int) < 204 := by omega
      obtain ⟨x, hx⟩ : ∃ x, x = (addTo p q t).getD t 0 := ⟨_, rfl⟩
      obtain ⟨y, hy⟩ : ∃ y, y = q.getD t 0 := ⟨_, rfl⟩
      have hx0 : 0 ≤ x ∧ x < 1000000 := by
        rw [hx, addTo_get _ _ _ _ (by omega), if_neg (by omega)]; exact ⟨HP.out.lo t, HP.out.hi t⟩
      have hy0 : 0 ≤ y ∧ y < 1000000 := by rw [hy]; exact ⟨HQ.out.lo t, HQ.out.hi t⟩
      obtain ⟨hx0, hx1⟩ := hx0
      obtain ⟨hy0, hy1⟩ := hy0
      rw [← hx] at a1
      rw [← hy] at b1
      have HX : Hid (x = (addTo p q t).getD t 0 ∧ y = q.getD t 0) := ⟨hx, hy⟩
      clear hx hy
      go_wp2_with fail
      refine wp_region_still_tail 11 (by kernel_rfl) (by kernel_rfl) ?_
      simp only [List.take_succ_cons, List.take_zero, List.drop_succ_cons, List.drop_zero]
      repeat still_step
      refine wpStill_nil ?_
      go_wp2
      go_roundg (j - (t + 1))
      case measure => omega
      case rel =>
        obtain ⟨hx, hy⟩ := HX.out
        refine ⟨t + 1, rfl, by omega, by go_num, ?_, ?_, ?_, ?_⟩
        · have h1 : NatAt wr.drew w.heap.size k (addTo p q t) := hA
          have h2 := h1.setS t (x + y)
          show NatAt _ _ _ ((addTo p q t).set t ((addTo p q t).getD t 0 + q.getD t 0))
          rw [← hx, ← hy]
          exact h2
        · exact hQt.grown (grownBy_set (w := wr) (wr := wr.drew) ⟨rfl, rfl, rfl, Nat.le_refl _, fun _ _ _ => rfl⟩ _ _) (by simp)
        · exact hC.grown (grownBy_set (w := wr) (wr := wr.drew) ⟨rfl, rfl, rfl, Nat.le_refl _, fun _ _ _ => rfl⟩ _ _) (by simp; omega)
        · exact (hW.drew).setCell (by simp) _
    · have htj : t = j := by omega
      subst htj
      have a0 := hA.c0
      have b0 := hQt.c0
      have hfr := hA.fr 0
      have hbd : Hid (∀ i, -400000000000000 ≤ (addTo p q t).getD i 0 ∧ (addTo p q t).getD i 0 ≤ 400000000000000) := fun i => by
        rw [addTo_get _ _ _ _ (by omega)]
        have := HP.out.lo i; have := HP.out.hi i; have := HQ.out.lo i; have := HQ.out.hi i
        split <;> omega
      have hout : Hid (∀ i, k ≤ i → t ≤ i → (addTo p q t).getD i 0 = 0) := fun i h1 h2 => by
        rw [addTo_get _ _ _ _ (by omega), if_neg (by omega)]; exact HP.out.out i h1
      have hval : Hid (vb 1000000 (addTo p q t) = ((n + m : Nat) : Int)) := by
        unfold Hid
        rw [addTo_val _ _ _ _ (by omega) (by omega), vb_take_out _ _ _ (by omega) HQ.out.out, HP.out.val, HQ.out.val]; omega
      have hWs := hW.size
      rcases Int.lt_trichotomy (k : Int) (t : Int) with hkt | hkt | hkt
      · have hA' := hA.set0 (t : Int)
        have hg' := grownBy_set (r0 wr) (b := w.heap.size) 0 (.int .i64 (t : Int))
        have hQ' := hC.grown hg' (by simp; omega)
        have hW' := hW.setCell (p := ⟨w.heap.size, 0, none⟩) (Nat.le_refl _) (.int .i64 (t : Int))
        go_wp2_with fail
        refine (carry_any w.heap.size t (addTo p q t) _ hl (by omega) hA' hbd.out (fun i hi => hout.out i (by omega) (by omega))).mono ?_
        rintro e w2 ⟨ok, i, r, rfl, hr, hN2, hg2, hs2, hcase⟩
        have hR : Rep (n + m) i r := by
          rcases hcase with ⟨_, n', h1, h2⟩ | ⟨_, h1⟩
          · have : n' = n + m := by have := hval.out; omega
            rw [← this]; exact h2
          · have := hval.out; omega
        have hC2 := hQ'.grown hg2 (by simp; omega)
        have hW2 : Below w.heap.size w w2 := hW'.grown hg2 (by have := hW'.size; omega) (by intro k hk; cases hk; omega)
        have HR : Hid (Rep (n + m) i r) := hR
        clear hA hQt hC hW hA' hg' hQ' hW' hg2 hs2 hcase hR a0 b0 hfr
        go_wp2_with (first | (refine load_nat rfl _ rfl w.heap.size rfl i r hN2 hr ?_) | (refine store_nat rfl _ _ rfl rfl (w.heap.size + 1 + 1) i r rfl rfl 0 zP hC2 zP_len hr ?_; intro w3 hN3 hg3 hs3))
        refine bodyPost_ret (v := .agg (natC i r)) (res_nat Tryz.results146 _ _ (w.heap.size + 1 + 1) _ _ rfl hN3 hr) rfl ⟨i, r, rfl, HR.out, ?_⟩
        exact hW2.grown hg3 (by have := hW2.size; omega) (by intro k hk; cases hk; omega)
      · have hkt' : k = t := by omega
        subst hkt'
        have hA' := hA.set0 (k : Int)
        have hg' := grownBy_set (r0 wr) (b := w.heap.size) 0 (.int .i64 (k : Int))
        have hQ' := hC.grown hg' (by simp; omega)
        have hW' := hW.setCell (p := ⟨w.heap.size, 0, none⟩) (Nat.le_refl _) (.int .i64 (k : Int))
        go_wp2_with fail
        refine (carry_any w.heap.size k (addTo p q k) _ hl (by omega) hA' hbd.out (fun i hi => hout.out i (by omega) (by omega))).mono ?_
        rintro e w2 ⟨ok, i, r, rfl, hr, hN2, hg2, hs2, hcase⟩
        have hR : Rep (n + m) i r := by
          rcases hcase with ⟨_, n', h1, h2⟩ | ⟨_, h1⟩
          · have : n' = n + m := by have := hval.out; omega
            rw [← this]; exact h2
          · have := hval.out; omega
        have hC2 := hQ'.grown hg2 (by simp; omega)
        have hW2 : Below w.heap.size w w2 := hW'.grown hg2 (by have := hW'.size; omega) (by intro k hk; cases hk; omega)
        have HR : Hid (Rep (n + m) i r) := hR
        clear hA hQt hC hW hA' hg' hQ' hW' hg2 hs2 hcase hR a0 b0 hfr
        go_wp2_with (first | (refine load_nat rfl _ rfl w.heap.size rfl i r hN2 hr ?_) | (refine store_nat rfl _ _ rfl rfl (w.heap.size + 1 + 1) i r rfl rfl 0 zP hC2 zP_len hr ?_; intro w3 hN3 hg3 hs3))
        refine bodyPost_ret (v := .agg (natC i r)) (res_nat Tryz.results146 _ _ (w.heap.size + 1 + 1) _ _ rfl hN3 hr) rfl ⟨i, r, rfl, HR.out, ?_⟩
        exact hW2.grown hg3 (by have := hW2.size; omega) (by intro k hk; cases hk; omega)
      · have hA' := hA.set0 (k : Int)
        have hg' := grownBy_set (r0 wr) (b := w.heap.size) 0 (.int .i64 (k : Int))
        have hQ' := hC.grown hg' (by simp; omega)
        have hW' := hW.setCell (p := ⟨w.heap.size, 0, none⟩) (Nat.le_refl _) (.int .i64 (k : Int))
        go_wp2_with fail
        refine (carry_any w.heap.size k (addTo p q t) _ hl (by omega) hA' hbd.out (fun i hi => hout.out i (by omega) (by omega))).mono ?_
        rintro e w2 ⟨ok, i, r, rfl, hr, hN2, hg2, hs2, hcase⟩
        have hR : Rep (n + m) i r := by
          rcases hcase with ⟨_, n', h1, h2⟩ | ⟨_, h1⟩
          · have : n' = n + m := by have := hval.out; omega
            rw [← this]; exact h2
          · have := hval.out; omega
        have hC2 := hQ'.grown hg2 (by simp; omega)
        have hW2 : Below w.heap.size w w2 := hW'.grown hg2 (by have := hW'.size; omega) (by intro k hk; cases hk; omega)
        have HR : Hid (Rep (n + m) i r) := hR
        clear hA hQt hC hW hA' hg' hQ' hW' hg2 hs2 hcase hR a0 b0 hfr
        go_wp2_with (first | (refine load_nat rfl _ rfl w.heap.size rfl i r hN2 hr ?_) | (refine store_nat rfl _ _ rfl rfl (w.heap.size + 1 + 1) i r rfl rfl 0 zP hC2 zP_len hr ?_; intro w3 hN3 hg3 hs3))
        refine bodyPost_ret (v := .agg (natC i r)) (res_nat Tryz.results146 _ _ (w.heap.size + 1 + 1) _ _ rfl hN3 hr) rfl ⟨i, r, rfl, HR.out, ?_⟩
        exact hW2.grown hg3 (by have := hW2.size; omega) (by intro k hk; cases hk; omega)

theorem plus_any {n m k j : Nat} {p q : List Int} (w : World) (hP : Rep n k p) (hQ : Rep m j q) (hk : k ≤ 100) (hj : j ≤ 100) :
    Calls Tryz.prog 146 #[.agg (natC k p), .agg (natC j q)] w fun e w' => ∃ (i : Nat) (r : List Int), e = .returned (.agg (natC i r)) ∧ Rep (n + m) i r ∧ Below w.heap.size w w' :=
  plus_wide w hP hQ (Nat.le_trans hk (by decide)) (Nat.le_trans hj (by decide))

theorem fits_any (k : Nat) (p : List Int) (w : World) :
    Calls Tryz.prog 164 #[.agg (natC k p)] w fun e w' => e = .returned (.bool (decide (k ≤ 100))) ∧ Below w.heap.size w w' := by
  have a0 := (NatAt.new w k p).c0
  by_cases h : (k : Int) ≤ 100
  · have hd : decide (k ≤ 100) = true := by simp; omega
    rw [hd]
    go_enter Tryz.func164, Tryz.ntmps164
    go_wp2
    go_ret
    exact ⟨rfl, (Below.refl _ _).alloc (Nat.le_refl _) _⟩
  · have hd : decide (k ≤ 100) = false := by simp; omega
    rw [hd]
    go_enter Tryz.func164, Tryz.ntmps164
    go_wp2
    go_ret
    exact ⟨rfl, (Below.refl _ _).alloc (Nat.le_refl _) _⟩

end Go.Proofs.YtjgpjafndaikcaaGreatDoor
