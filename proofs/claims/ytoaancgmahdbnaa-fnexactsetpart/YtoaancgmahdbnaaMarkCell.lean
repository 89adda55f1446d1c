/-
  Rows of Cell that are answers: what the laws' own helpers over them say.
-/
import Derived.Test.YtoaancgmahdbnaaRecs2
import Derived.Test.YtoaancgmahdbnaaRecCell
namespace Go.Proofs.Ytoaancgmahdbnaa
open Go.RowKit
set_option linter.unusedVariables false
/-- One that is marked. -/
def markCell (k : Int) : Bool × Int × Int × Int := (((k).tmod 3 == 0), k + 1, k + 1 + 1, k + 1 + 1 + 1)
theorem runX_cell {o : Oper} {a : Act} {w : World} (x : Operand) (ho : o.op = .load 59 x) (b i : Nat) (hx : a.eval x = .pointer (some ⟨b, i * 4, none⟩)) (d : Bool × Int × Int × Int) (hD : w.rangeAt b (i * 4) (cellL d)) :
    (execOp a.eval o).run Try.prog w = .ok (.value (.agg (cellL d).toArray)) w := by
  have h := run_loadAt_mid (P := Try.prog) w b (i * 4) 59 (cellL d) _ hD Try.underlying59 rfl zero_cell.2
  unfold execOp
  simp only [ho, hx, Sem.run_bind, h, Result.andThen_ok]
  rfl
set_option maxHeartbeats 1000000 in
set_option maxRecDepth 100000 in
theorem eqCellS_in (v1 v2 : Value) (l : List (Bool × Int × Int × Int)) (w : World) (hl : l.length ≤ 1048576) (h1 : InR w v1 cellL 4 l) (h2 : InR w v2 cellL 4 l) :
    Calls Try.prog 53 #[v1, v2] w fun e w' => e = .returned (.bool true) ∧ Below w.heap.size w w' := by
  obtain ⟨o1, cap1, rfl, h1⟩ := h1
  obtain ⟨o2, cap2, rfl, h2⟩ := h2
  rcases Classical.em (l = []) with rfl | hne
  · clear h1 h2
    go_enter Try.func53, Try.ntmps53
    go_wp2_with fail
    go_loopg [5] 0 (fun g i wr => i = .int .i64 0 ∧ wr = w)
    case atStart => exact ⟨rfl, rfl⟩
    case round =>
      obtain ⟨rfl, rfl⟩ := hrel
      go_wp2
      go_ret
      exact ⟨rfl, Below.refl _ _⟩
  obtain ⟨b1, rfl, hb1, h1⟩ := h1 hne
  obtain ⟨b2, rfl, hb2, h2⟩ := h2 hne
  have H1 := hideT' h1
  have H2 := hideT' h2
  clear h1 h2 hne
  go_enter Try.func53, Try.ntmps53
  go_wp2_with fail
  go_loopg [5] l.length (fun g i wr => ∃ k : Nat, g = l.length - k ∧ k ≤ l.length ∧ i = .int .i64 (k : Int) ∧ Below w.heap.size w wr)
  case atStart => exact ⟨0, rfl, by omega, rfl, Below.refl _ _⟩
  case round =>
    obtain ⟨k, hg, hk, rfl, hW⟩ := hrel
    by_cases hlt : (k : Int) < (l.length : Int)
    · have hk' : k < l.length := by omega
      obtain ⟨d, hd⟩ : ∃ d, d = l.getD k default := ⟨_, rfl⟩
      have HDM := hideT' hd
      have h1 := H1.out
      have h2 := H2.out
      clear hd
      have hrg : ∀ w', Below w.heap.size w w' → w'.rangeAt b1 (k * 4) (cellL d) ∧ w'.rangeAt b2 (k * 4) (cellL d) := fun w' hB => by
        refine ⟨fun j u hu => ?_, fun j u hu => ?_⟩
        · rw [hB.cell (p := ⟨b1, k * 4 + j, none⟩) hb1]; rw [HDM.out] at hu; exact h1 k j u hk' hu
        · rw [hB.cell (p := ⟨b2, k * 4 + j, none⟩) hb2]; rw [HDM.out] at hu; exact h2 k j u hk' hu
      have HRG := hideT' hrg
      have hS := hrg wr.drew (Below.drew hW)
      clear h1 h2 hrg
      go_wp2_with fail
      refine held_begin (fun w' => w'.rangeAt b1 (k * 4) (cellL d) ∧ w'.rangeAt b2 (k * 4) (cellL d)) (by kernel_rfl) ?_
      refine held_val 0 (some 17) rfl rfl (by kernel_rfl) (by kernel_rfl) (by kernel_rfl) noPanic_put rfl (.slice (some ⟨b1, 0, none⟩) l.length cap1) (fun _ => rfl) hS ?_
      simp only [Act.put, List.setIfInBounds_toArray, List.set_cons_zero, List.set_cons_succ]
      refine held_val 1 (some 18) rfl rfl (by kernel_rfl) (by kernel_rfl) (by kernel_rfl) noPanic_put rfl (.int .i64 (k : Int)) (fun _ => rfl) hS ?_
      simp only [Act.put, List.setIfInBounds_toArray, List.set_cons_zero, List.set_cons_succ]
      refine held_val 2 (some 19) rfl rfl (by kernel_rfl) (by kernel_rfl) (by kernel_rfl) noPanic_put rfl (.pointer (some ⟨b1, k * 4, none⟩)) (fun _ => by go_simp) hS ?_
      simp only [Act.put, List.setIfInBounds_toArray, List.set_cons_zero, List.set_cons_succ]
      refine held_valS 3 (some 20) rfl rfl (by kernel_rfl) (by kernel_rfl) (by kernel_rfl) noPanic_put rfl (.agg (cellL d).toArray) (fun _ hw' => runX_cell _ rfl b1 k rfl d hw'.1) hS ?_
      simp only [Act.put, List.setIfInBounds_toArray, List.set_cons_zero, List.set_cons_succ]
      refine held_val 4 (some 21) rfl rfl (by kernel_rfl) (by kernel_rfl) (by kernel_rfl) noPanic_put rfl (.slice (some ⟨b2, 0, none⟩) l.length cap2) (fun _ => rfl) hS ?_
      simp only [Act.put, List.setIfInBounds_toArray, List.set_cons_zero, List.set_cons_succ]
      refine held_val 5 (some 22) rfl rfl (by kernel_rfl) (by kernel_rfl) (by kernel_rfl) noPanic_put rfl (.int .i64 (k : Int)) (fun _ => rfl) hS ?_
      simp only [Act.put, List.setIfInBounds_toArray, List.set_cons_zero, List.set_cons_succ]
      refine held_val 6 (some 23) rfl rfl (by kernel_rfl) (by kernel_rfl) (by kernel_rfl) noPanic_put rfl (.pointer (some ⟨b2, k * 4, none⟩)) (fun _ => by go_simp) hS ?_
      simp only [Act.put, List.setIfInBounds_toArray, List.set_cons_zero, List.set_cons_succ]
      refine held_valS 7 (some 24) rfl rfl (by kernel_rfl) (by kernel_rfl) (by kernel_rfl) noPanic_put rfl (.agg (cellL d).toArray) (fun _ hw' => runX_cell _ rfl b2 k rfl d hw'.2) hS ?_
      simp only [Act.put, List.setIfInBounds_toArray, List.set_cons_zero, List.set_cons_succ]
      refine held_call 8 (some 25) (by kernel_rfl) rfl rfl rfl 76 #[.agg (cellL d).toArray, .agg (cellL d).toArray] (by go_simp) _ (eqCell_any d wr.drew) ?_
      rintro e w2 ⟨rfl, hW2⟩
      have hW2 : Below wr.heap.size wr w2 := ⟨hW2.os, hW2.tape, hW2.output, hW2.size, hW2.block⟩
      have hW3 := hW.trans (hW2.mono hW.size)
      have hS2 := HRG.out w2 hW3
      refine ⟨_, rfl, hS2, ?_⟩
      simp only [Act.put, List.setIfInBounds_toArray, List.set_cons_zero, List.set_cons_succ]
      refine held_val 9 (some 26) rfl rfl (by kernel_rfl) (by kernel_rfl) (by kernel_rfl) noPanic_put rfl (.bool false) (fun _ => by go_simp) hS2 ?_
      simp only [Act.put, List.setIfInBounds_toArray, List.set_cons_zero, List.set_cons_succ]
      refine wpAnyH_done (by kernel_rfl) ?_ _
      refine NoPanic.normal ?_
      go_wp2
      go_roundg (l.length - (k + 1))
      case measure => omega
      case rel => exact ⟨k + 1, rfl, by omega, by go_num, hW3⟩
    · go_wp2
      go_ret
      exact ⟨rfl, hW⟩
set_option maxHeartbeats 600000 in
set_option maxRecDepth 100000 in
theorem markCellS_own (v : Value) (n : Nat) (xs0 : List Value) (k : Int) (B : Nat) (w : World) (hk0 : 0 < k) (hk1 : k + 4 * (n : Int) ≤ 1099511627776) (h : w.ownsRow B 59 4 v n xs0) :
    Calls Try.prog 58 #[v, .int .i64 k] w fun e w' => e = .returned (.int .i64 (k + 4 * (n : Int))) ∧ OwnR w' B v 59 cellL 4 (markL markCell 4 k n) ∧ w.grownBy w' v.ownBlock := by
  rcases h.2 with ⟨rfl, rfl⟩ | ⟨b, cap, cur, rfl, hB, _⟩
  · have hx : k + 4 * ((0 : Nat) : Int) = k := by simp
    rw [hx]
    clear hx hk1
    go_enter Try.func58, Try.ntmps58
    go_wp2_with fail
    go_loopg [1, 5] 0 (fun g x i wr => x = .int .i64 k ∧ i = .int .i64 0 ∧ wr = w)
    case atStart => exact ⟨rfl, rfl, rfl⟩
    case round =>
      obtain ⟨rfl, rfl, rfl⟩ := hrel
      go_wp2
      go_ret
      exact ⟨rfl, by simpa [OwnR, markL] using World.ownsRow_nil _ _ _ _, ⟨rfl, rfl, rfl, Nat.le_refl _, fun _ _ _ => rfl⟩⟩
  · obtain ⟨N, hN⟩ : ∃ N : Int, N = k + 4 * (n : Int) := ⟨_, rfl⟩
    have HN := hideT' hN
    have HB := hideT' hk1
    clear hN hk1
    go_enter Try.func58, Try.ntmps58
    go_wp2_with fail
    go_loopg [1, 5] n (fun g x i wr => ∃ (j : Nat) (y : Int) (xs : List Value), g = n - j ∧ j ≤ n ∧ i = .int .i64 (j : Int) ∧ x = .int .i64 y ∧ 0 < y ∧ y ≤ 1099511627776 ∧ Hid (y = k + 4 * (j : Int)) ∧ wr.ownsRow B 59 4 (.slice (some ⟨b, 0, none⟩) n cap) n xs ∧ Hid (Marked cellL markCell 4 k j xs) ∧ w.grownBy wr (some b))
    case atStart => exact ⟨0, k, xs0, rfl, by omega, rfl, rfl, by omega, by have := HB.out; omega, by simp [Hid], h, (fun j hj => by omega : Marked cellL markCell 4 k 0 xs0), ⟨rfl, rfl, rfl, Nat.le_refl _, fun _ _ _ => rfl⟩⟩
    case round =>
      clear h
      obtain ⟨j, x, xs, hg, hj, rfl, rfl, hx0, hx1, HX, hown, HM, hG⟩ := hrel
      by_cases hlt : (j : Int) < (n : Int)
      · have hj' : j < n := by omega
        have HJ : Hid (j * 4 + 4 ≤ n * 4) := by unfold Hid; omega
        have hx2 : x + 4 ≤ 1099511627776 := by have := HB.out; have := HX.out; omega
        obtain ⟨r0, htm⟩ : ∃ r : Int, x.tmod 3 = r := ⟨_, rfl⟩
        have hr0 : 0 ≤ r0 := by rw [← htm]; exact Int.tmod_nonneg 3 (by omega)
        have hr3 : r0 < 3 := by rw [← htm]; exact Int.tmod_lt_of_pos x (by decide)
        obtain ⟨q0, hq0⟩ : ∃ q : Bool, (r0 == 0) = q := ⟨_, rfl⟩
        have HQ0 : Hid ((x.tmod 3 == 0) = q0) := by unfold Hid; rw [htm, hq0]
        go_wp2_with (first | (refine store_own rfl 4 _ _ rfl rfl b (j * 4) (.bool q0) rfl rfl size1_bool rfl hown (by have := HJ.out; omega) ?_; intro w1 own1 hg1 hs1) | (refine store_own rfl 3 _ _ rfl rfl b (j * 4 + 1) (.int .i64 (x + 1)) rfl rfl size1_int rfl own1 (by have := HJ.out; omega) ?_; intro w2 own2 hg2 hs2) | (refine store_own rfl 3 _ _ rfl rfl b (j * 4 + 2) (.int .i64 (x + 1 + 1)) rfl rfl size1_int rfl own2 (by have := HJ.out; omega) ?_; intro w3 own3 hg3 hs3) | (refine store_own rfl 3 _ _ rfl rfl b (j * 4 + 3) (.int .i64 (x + 1 + 1 + 1)) rfl rfl size1_int rfl own3 (by have := HJ.out; omega) ?_; intro w4 own4 hg4 hs4))
        go_roundg (n - (j + 1))
        case measure => omega
        case rel =>
          have hbb := HB.out
          refine ⟨j + 1, x + 4, _, rfl, by omega, congrArg (Value.int .i64) (by unfold wrap64; omega), congrArg (Value.int .i64) (by omega), by omega, hx2, by have := HX.out; unfold Hid; omega, own4, ?_, (grownX_trans (grownX_trans (grownX_trans (grownX_trans hG hg1) hg2) hg3) hg4)⟩
          intro i hi q hq
          by_cases e : i = j
          · subst e
            have hxe : k + ((4 : Nat) : Int) * (i : Int) = x := by have := HX.out; omega
            rw [hxe]
            have hl1 := hown.1
            match q, hq with
            | 0, _ => simp [List.getElem?_set, cellL, markCell, HQ0.out]; omega
            | 1, _ => simp [List.getElem?_set, cellL, markCell]; omega
            | 2, _ => simp [List.getElem?_set, cellL, markCell]; omega
            | 3, _ => simp [List.getElem?_set, cellL, markCell]; omega
          · exact ((((HM.out.set (j * 4) (.bool q0) (by omega)).set (j * 4 + 1) (.int .i64 (x + 1)) (by omega)).set (j * 4 + 2) (.int .i64 (x + 1 + 1)) (by omega)).set (j * 4 + 3) (.int .i64 (x + 1 + 1 + 1)) (by omega)) i (by omega) q hq
      · have hjn : j = n := by omega
        subst hjn
        have hxs := HM.out.all cellL_len hown.1
        rw [hxs] at hown
        have HO := hideT' hown
        clear hown hxs
        have HXN : Hid (x = N) := by unfold Hid; rw [HX.out, HN.out]
        go_wp2
        go_ret
        refine ⟨by rw [← HN.out, ← HXN.out]; rfl, ?_, hG⟩
        have := HO.out
        unfold OwnR
        rw [markL_len]
        exact this
set_option maxHeartbeats 600000 in
set_option maxRecDepth 100000 in
theorem heldCellS_in (v : Value) (n : Nat) (k : Int) (w : World) (hk0 : 0 < k) (hk1 : k + 4 * (n : Int) ≤ 1099511627776) (h : InR w v cellL 4 (markL markCell 4 k n)) :
    Calls Try.prog 62 #[v, .int .i64 k] w fun e w' => e = .returned (.int .i64 (k + 4 * (n : Int))) ∧ Below w.heap.size w w' := by
  obtain ⟨o, cap, rfl, h⟩ := h
  rw [markL_len]
  rcases Nat.eq_zero_or_pos n with rfl | hn
  · have hx : k + 4 * ((0 : Nat) : Int) = k := by simp
    rw [hx]
    clear hx hk1 h
    go_enter Try.func62, Try.ntmps62
    go_wp2_with fail
    go_loopg [1, 5] 0 (fun g x i wr => x = .int .i64 k ∧ i = .int .i64 0 ∧ wr = w)
    case atStart => exact ⟨rfl, rfl, rfl⟩
    case round =>
      obtain ⟨rfl, rfl, rfl⟩ := hrel
      go_wp2
      go_ret
      exact ⟨rfl, Below.refl _ _⟩
  obtain ⟨b, rfl, hb, h1⟩ := h (by intro e; have := congrArg List.length e; rw [markL_len] at this; simp at this; omega)
  obtain ⟨N, hN⟩ : ∃ N : Int, N = k + 4 * (n : Int) := ⟨_, rfl⟩
  have HN := hideT' hN
  have HB := hideT' hk1
  have H1 := hideT' h1
  clear hN hk1 h1 h
  go_enter Try.func62, Try.ntmps62
  go_wp2_with fail
  go_loopg [1, 5] n (fun g x i wr => ∃ (j : Nat) (y : Int), g = n - j ∧ j ≤ n ∧ i = .int .i64 (j : Int) ∧ x = .int .i64 y ∧ 0 < y ∧ y ≤ 1099511627776 ∧ Hid (y = k + 4 * (j : Int)) ∧ Below w.heap.size w wr)
  case atStart => exact ⟨0, k, rfl, by omega, rfl, rfl, by omega, by have := HB.out; omega, by simp [Hid], Below.refl _ _⟩
  case round =>
    obtain ⟨j, x, hg, hj, rfl, rfl, hx0, hx1, HX, hW⟩ := hrel
    by_cases hlt : (j : Int) < (n : Int)
    · have hj' : j < n := by omega
      have hx2 : x + 4 ≤ 1099511627776 := by have := HB.out; have := HX.out; omega
      have hxe : k + ((4 : Nat) : Int) * (j : Int) = x := by have := HX.out; omega
      have hcell : ∀ q u, (cellL (markCell x))[q]? = some u → wr.cell? ⟨b, j * 4 + q, none⟩ = some u := fun q u hu => by
        have := H1.out j q u (by rw [markL_len]; exact hj') (by rw [markL_get markCell 4 k n j hj', hxe]; exact hu)
        exact (hW.cell (p := ⟨b, j * 4 + q, none⟩) hb).trans this
      have c0 := hcell 0 (.bool (((x).tmod 3 == 0))) rfl
      have c1 := hcell 1 (.int .i64 (x + 1)) rfl
      have c2 := hcell 2 (.int .i64 (x + 1 + 1)) rfl
      have c3 := hcell 3 (.int .i64 (x + 1 + 1 + 1)) rfl
      rw [Nat.add_zero] at c0
      obtain ⟨r0, htm⟩ : ∃ r : Int, x.tmod 3 = r := ⟨_, rfl⟩
      have hr0 : 0 ≤ r0 := by rw [← htm]; exact Int.tmod_nonneg 3 (by omega)
      have hr3 : r0 < 3 := by rw [← htm]; exact Int.tmod_lt_of_pos x (by decide)
      obtain ⟨q0, hq0⟩ : ∃ q : Bool, (r0 == 0) = q := ⟨_, rfl⟩
      rw [htm, hq0] at c0
      have hqq0 : (q0 != q0) = false := by cases q0 <;> rfl
      have HC := hideT' hcell
      clear hcell hxe
      go_wp2
      go_roundg (n - (j + 1))
      case measure => omega
      case rel =>
        have hbb := HB.out
        exact ⟨j + 1, x + 4, rfl, by omega, congrArg (Value.int .i64) (by unfold wrap64; omega), congrArg (Value.int .i64) (by omega), by omega, hx2, by have := HX.out; unfold Hid; omega, hW⟩
    · have hjn : j = n := by omega
      have HXN : Hid (x = N) := by unfold Hid; rw [HX.out, HN.out, hjn]
      go_wp2
      go_ret
      exact ⟨by rw [← HN.out, ← HXN.out]; rfl, hW⟩
end Go.Proofs.Ytoaancgmahdbnaa
