/-
  What times of impl's nats answers.
-/
import Derived.Test.YtcdidibphaemoaaMinus
namespace Go.Proofs.Ytcdidibphaemoaa
open Go.RowKit
set_option linter.unusedVariables false

/-- The products of the parts of p below i with those of q below j, added up from Z on. -/
def rowsTo (Z p q : List Int) (j : Nat) : Nat → List Int
  | 0 => Z
  | i + 1 => subTo (rowsTo Z p q j i) q (-(p.getD i 0)) i j

theorem rowsTo_len (Z p q : List Int) (j i : Nat) : (rowsTo Z p q j i).length = Z.length := by
  induction i with
  | zero => rfl
  | succ i ih => simp [rowsTo, subTo_len, ih]

theorem subTo_add (p q : List Int) (m : Int) (u j i : Nat) (hj : u + j ≤ p.length) : (subTo p q (-m) u j).getD i 0 = if u ≤ i ∧ i < u + j then p.getD i 0 + m * q.getD (i - u) 0 else p.getD i 0 := by
  rw [subTo_get _ _ _ _ _ _ hj]
  split
  · rw [Int.neg_mul]; omega
  · rfl

theorem mul_bd {x y B : Int} (hx : 0 ≤ x) (hx1 : x < B) (hy : 0 ≤ y) (hy1 : y < B) : 0 ≤ x * y ∧ x * y ≤ B * B := by
  refine ⟨Int.mul_nonneg hx hy, ?_⟩
  have h1 : x * y ≤ B * y := Int.mul_le_mul_of_nonneg_right (by omega) hy
  have h2 : B * y ≤ B * B := Int.mul_le_mul_of_nonneg_left (by omega) (by omega)
  omega

/-- Bounds while a row is being added. -/
theorem part_bd (Z p q : List Int) (B : Int) (j i t x : Nat) (hB : 0 < B) (hZ : ∀ x, Z.getD x 0 = 0) (hp : ∀ x, 0 ≤ p.getD x 0 ∧ p.getD x 0 < B) (hq : ∀ x, 0 ≤ q.getD x 0 ∧ q.getD x 0 < B) (hlen : i + j ≤ Z.length) (ht : i + t ≤ Z.length)
    (ih : ∀ x, 0 ≤ (rowsTo Z p q j i).getD x 0 ∧ (rowsTo Z p q j i).getD x 0 ≤ (i : Int) * (B * B)) :
    0 ≤ (subTo (rowsTo Z p q j i) q (-(p.getD i 0)) i t).getD x 0 ∧ (subTo (rowsTo Z p q j i) q (-(p.getD i 0)) i t).getD x 0 ≤ ((i + 1 : Nat) : Int) * (B * B) := by
  rw [subTo_add _ _ _ _ _ _ (by rw [rowsTo_len]; exact ht)]
  have h1 := ih x
  have h2 := hp i
  have h3 := hq (x - i)
  have h4 := mul_bd h2.1 h2.2 h3.1 h3.2
  have h5 : 0 ≤ B * B := Int.mul_nonneg (by omega) (by omega)
  have e : ((i + 1 : Nat) : Int) * (B * B) = (i : Int) * (B * B) + B * B := by rw [Int.natCast_add, Int.add_mul]; simp
  split <;> omega

theorem rowsTo_bd (Z p q : List Int) (B : Int) (j i : Nat) (hB : 0 < B) (hZ : ∀ x, Z.getD x 0 = 0) (hp : ∀ x, 0 ≤ p.getD x 0 ∧ p.getD x 0 < B) (hq : ∀ x, 0 ≤ q.getD x 0 ∧ q.getD x 0 < B) (hlen : i + j ≤ Z.length) :
    ∀ x, 0 ≤ (rowsTo Z p q j i).getD x 0 ∧ (rowsTo Z p q j i).getD x 0 ≤ (i : Int) * (B * B) := by
  induction i with
  | zero => intro x; simp only [rowsTo]; rw [hZ x]; simp
  | succ i ih => intro x; exact part_bd Z p q B j i j x hB hZ hp hq (by omega) (by omega) (ih (by omega))

theorem rowsTo_zero (Z p q : List Int) (j i : Nat) (hZ : ∀ x, Z.getD x 0 = 0) (hlen : i + j ≤ Z.length) : ∀ x, i + j ≤ x → (rowsTo Z p q j i).getD x 0 = 0 := by
  induction i with
  | zero => intro x _; exact hZ x
  | succ i ih =>
    intro x hx
    simp only [rowsTo]
    rw [subTo_get _ _ _ _ _ _ (by rw [rowsTo_len]; omega), if_neg (by omega)]
    exact ih (by omega) x (by omega)

theorem rowsTo_val (B : Int) (Z p q : List Int) (j i : Nat) (hZ : ∀ x, Z.getD x 0 = 0) (hlen : i + j ≤ Z.length + 1) (hl : ∀ k, k < i → k + j ≤ Z.length) (hi : i ≤ p.length) (hj : j ≤ q.length) : vb B (rowsTo Z p q j i) = vb B (p.take i) * vb B (q.take j) := by
  induction i with
  | zero => simp only [rowsTo]; rw [vb_zero _ _ hZ]; simp [vb]
  | succ i ih =>
    simp only [rowsTo]
    rw [subTo_val _ _ _ _ _ _ (by rw [rowsTo_len]; exact hl i (by omega)) hj, ih (by omega) (fun k hk => hl k (by omega)) (by omega), List.take_succ_eq_append_getElem (by omega), vb_snoc]
    have : p.getD i 0 = p[i] := by simp [List.getD, show i < p.length by omega]
    rw [this, List.length_take, Nat.min_eq_left (by omega), Int.add_mul, Int.neg_mul]
    have e : p[i] * (B ^ i * vb B (q.take j)) = B ^ i * p[i] * vb B (q.take j) := by
      rw [← Int.mul_assoc, Int.mul_comm p[i] (B ^ i)]
    omega

set_option maxHeartbeats 1000000 in
set_option maxRecDepth 100000 in
theorem times_any {n m k j : Nat} {p q : List Int} (w : World) (hP : Rep n k p) (hQ : Rep m j q) (hk : k ≤ 100) (hj : j ≤ 100) :
    Calls Try.prog 59 #[.agg (natC k p), .agg (natC j q)] w fun e w' => ∃ (i : Nat) (r : List Int), e = .returned (.agg (natC i r)) ∧ Rep (n * m) i r ∧ Below w.heap.size w w' := by
  have hz := zero_nat.1
  have hp := hP.len
  have hq := hQ.len
  have A := (((NatAt.new w k p).old (.cells (natC j q) 30)).old (.cells (natC 0 zP) 30)).old (.cells (natC 0 zP) 30)
  have B := ((NatAt.new (w.alloc (.cells (natC k p) 30)) j q).old (.cells (natC 0 zP) 30)).old (.cells (natC 0 zP) 30)
  have C := (NatAt.new ((w.alloc (.cells (natC k p) 30)).alloc (.cells (natC j q) 30)) 0 zP).old (.cells (natC 0 zP) 30)
  have D := NatAt.new (((w.alloc (.cells (natC k p) 30)).alloc (.cells (natC j q) 30)).alloc (.cells (natC 0 zP) 30)) 0 zP
  have hB : Below w.heap.size w ((((w.alloc (.cells (natC k p) 30)).alloc (.cells (natC j q) 30)).alloc (.cells (natC 0 zP) 30)).alloc (.cells (natC 0 zP) 30)) := ((((Below.refl _ _).alloc (Nat.le_refl _) _).alloc (by simp) _).alloc (by simp; omega) _).alloc (by simp; omega) _
  simp only [World.size_alloc] at B C D
  have a0 := A.c0
  have HP : Hid (Rep n k p) := hP
  have HQ : Hid (Rep m j q) := hQ
  have hbp : Hid (∀ x, 0 ≤ p.getD x 0 ∧ p.getD x 0 < 1000000) := fun x => ⟨hP.lo x, hP.hi x⟩
  have hbq : Hid (∀ x, 0 ≤ q.getD x 0 ∧ q.getD x 0 < 1000000) := fun x => ⟨hQ.lo x, hQ.hi x⟩
  clear hP hQ
  go_enter Try.func59, Try.ntmps59
  go_wp2
  go_loopg [10] k (fun g i wr => ∃ s : Nat, g = k - s ∧ s ≤ k ∧ i = .int .i64 (s : Int) ∧ NatAt wr w.heap.size k p ∧ NatAt wr (w.heap.size + 1) j q ∧ NatAt wr (w.heap.size + 1 + 1) 0 zP ∧ NatAt wr (w.heap.size + 1 + 1 + 1) 0 (rowsTo zP p q j s) ∧ Below w.heap.size w wr)
  case atStart => exact ⟨0, rfl, by omega, rfl, A, B, C, D, hB⟩
  case round =>
    obtain ⟨s, rfl, hs, rfl, hA, hQt, hC, hD, hW⟩ := hrel
    clear A B C D hB a0
    by_cases hsk : (s : Int) < (k : Int)
    · have b0 := hQt.c0
      have hrb : Hid (∀ x, 0 ≤ (rowsTo zP p q j s).getD x 0 ∧ (rowsTo zP p q j s).getD x 0 ≤ (s : Int) * (1000000 * 1000000)) := rowsTo_bd zP p q 1000000 j s (by omega) zP_get hbp.out hbq.out (by rw [zP_len]; omega)
      have hrl : (rowsTo zP p q j s).length = 204 := by rw [rowsTo_len]; exact zP_len
      go_wp2
      go_loopg [15] j (fun g i wq => ∃ t : Nat, g = j - t ∧ t ≤ j ∧ i = .int .i64 (t : Int) ∧ NatAt wq w.heap.size k p ∧ NatAt wq (w.heap.size + 1) j q ∧ NatAt wq (w.heap.size + 1 + 1) 0 zP ∧ NatAt wq (w.heap.size + 1 + 1 + 1) 0 (subTo (rowsTo zP p q j s) q (-(p.getD s 0)) s t) ∧ Below w.heap.size w wq)
      case atStart => exact ⟨0, rfl, by omega, rfl, hA, hQt, hC, hD, hW⟩
      case round =>
        obtain ⟨t, rfl, ht, rfl, hA2, hQ2, hC2, hD2, hW2⟩ := hrel
        clear hA hQt hC hD hW b0
        by_cases hlt : (t : Int) < (j : Int)
        · obtain ⟨u, hu⟩ : ∃ u, u = s + t := ⟨_, rfl⟩
          have a1 := hA2.cs s (by omega)
          have b1 := hQ2.cs t (by omega)
          have hll : (subTo (rowsTo zP p q j s) q (-(p.getD s 0)) s t).length = 204 := by rw [subTo_len]; exact hrl
          have d1 := hD2.cs u (by omega)
          have hfr := hD2.fr (1 + u)
          have h1 : (s : Int) < 204 := by omega
          have h2 : (t : Int) < 204 := by omega
          have h3 : (u : Int) < 204 := by omega
          have hwr : IntKind.i64.wrap ((s : Int) + (t : Int)) = (u : Int) := by rw [IntKind.wrap_i64]; omega
          obtain ⟨x, hx⟩ : ∃ x, x = p.getD s 0 := ⟨_, rfl⟩
          obtain ⟨y, hy⟩ : ∃ y, y = q.getD t 0 := ⟨_, rfl⟩
          obtain ⟨v, hv⟩ : ∃ v, v = (subTo (rowsTo zP p q j s) q (-(p.getD s 0)) s t).getD u 0 := ⟨_, rfl⟩
          obtain ⟨hx0, hx1⟩ : 0 ≤ x ∧ x < 1000000 := by rw [hx]; exact hbp.out s
          obtain ⟨hy0, hy1⟩ : 0 ≤ y ∧ y < 1000000 := by rw [hy]; exact hbq.out t
          obtain ⟨hv0, hv1⟩ : 0 ≤ v ∧ v ≤ 101000000000000 := by
            have := part_bd zP p q 1000000 j s t u (by omega) zP_get hbp.out hbq.out (by rw [zP_len]; omega) (by rw [zP_len]; omega) hrb.out
            rw [← hv] at this
            refine ⟨this.1, Int.le_trans this.2 ?_⟩
            have : ((s + 1 : Nat) : Int) ≤ 101 := by omega
            omega
          rw [← hx] at a1
          rw [← hy] at b1
          rw [← hv] at d1
          obtain ⟨z, hzz⟩ : ∃ z, x * y = z := ⟨_, rfl⟩
          obtain ⟨hz0, hz1⟩ : 0 ≤ z ∧ z ≤ 1000000 * 1000000 := by rw [← hzz]; exact mul_bd hx0 hx1 hy0 hy1
          have HX : Hid (x = p.getD s 0 ∧ y = q.getD t 0 ∧ v = (subTo (rowsTo zP p q j s) q (-(p.getD s 0)) s t).getD u 0 ∧ u = s + t) := ⟨hx, hy, hv, hu⟩
          have hwz : IntKind.i64.wrap z = z := by rw [IntKind.wrap_i64]; omega
          clear hx hy hv hrl hll hu
          go_wp2_with fail
          refine wp_region_still_tail 18 (by kernel_rfl) (by kernel_rfl) ?_
          simp only [List.take_succ_cons, List.take_zero, List.drop_succ_cons, List.drop_zero]
          repeat still_step
          refine wpStill_nil ?_
          go_wp2
          go_roundg (j - (t + 1))
          case measure => omega
          case rel =>
            obtain ⟨hx, hy, hv, hu⟩ := HX.out
            subst hu
            have hgr : ∀ V, wr.grownBy (wr.drew.setCell ⟨w.heap.size + 1 + 1 + 1, 1 + (s + t), none⟩ V) (some (w.heap.size + 1 + 1 + 1)) := fun V => grownBy_set (w := wr) (wr := wr.drew) ⟨rfl, rfl, rfl, Nat.le_refl _, fun _ _ _ => rfl⟩ _ _
            refine ⟨t + 1, rfl, by omega, by go_num, hA2.grown (hgr _) (by simp <;> omega), hQ2.grown (hgr _) (by simp <;> omega), hC2.grown (hgr _) (by simp), ?_, (hW2.drew).setCell (by simp <;> omega) _⟩
            have g1 : NatAt wr.drew (w.heap.size + 1 + 1 + 1) 0 (subTo (rowsTo zP p q j s) q (-(p.getD s 0)) s t) := hD2
            have g2 := g1.setS (s + t) (v + z)
            show NatAt _ _ _ ((subTo (rowsTo zP p q j s) q (-(p.getD s 0)) s t).set (s + t) ((subTo (rowsTo zP p q j s) q (-(p.getD s 0)) s t).getD (s + t) 0 - -(p.getD s 0) * q.getD t 0))
            rw [← hv, ← hx, ← hy, Int.neg_mul, hzz, Int.sub_neg]
            rw [← hx] at g2
            exact g2
        · have htj : t = j := by omega
          subst htj
          go_wp2
          go_roundg (k - (s + 1))
          case measure => omega
          case rel => exact ⟨s + 1, rfl, by omega, by go_num, hA2, hQ2, hC2, hD2, hW2⟩
    · have hsk' : s = k := by omega
      subst hsk'
      have a0 := hA.c0
      have b0 := hQt.c0
      have d0 := hD.c0
      have hfr := hD.fr 0
      have hbd : Hid (∀ i, -400000000000000 ≤ (rowsTo zP p q j s).getD i 0 ∧ (rowsTo zP p q j s).getD i 0 ≤ 400000000000000) := fun i => by
        have := rowsTo_bd zP p q 1000000 j s (by omega) zP_get hbp.out hbq.out (by rw [zP_len]; omega) i
        omega
      have hout : Hid (∀ i, s + j ≤ i → (rowsTo zP p q j s).getD i 0 = 0) := rowsTo_zero zP p q j s zP_get (by rw [zP_len]; omega)
      have hval : Hid (vb 1000000 (rowsTo zP p q j s) = ((n * m : Nat) : Int)) := by
        unfold Hid
        rw [rowsTo_val _ _ _ _ _ _ zP_get (by rw [zP_len]; omega) (fun k hk => by rw [zP_len]; omega) (by omega) (by omega), vb_take_out _ _ _ (by omega) HP.out.out, vb_take_out _ _ _ (by omega) HQ.out.out, HP.out.val, HQ.out.val]; simp
      have hl : (rowsTo zP p q j s).length = 204 := by rw [rowsTo_len]; exact zP_len
      have hWs := hW.size
      have hA' := hD.set0 ((s : Int) + (j : Int))
      have hg' := grownBy_set (r0 wr) (b := w.heap.size + 1 + 1 + 1) 0 (.int .i64 ((s : Int) + (j : Int)))
      have hQ' := hC.grown hg' (by simp)
      have hW' := hW.setCell (p := ⟨w.heap.size + 1 + 1 + 1, 0, none⟩) (by simp; omega) (.int .i64 ((s : Int) + (j : Int)))
      go_wp2_with fail
      refine (carry_any (w.heap.size + 1 + 1 + 1) (s + j) (rowsTo zP p q j s) _ hl (by omega) hA' hbd.out hout.out).mono ?_
      rintro e w2 ⟨ok, i, r, rfl, hr, hN2, hg2, hs2, hcase⟩
      have hR : Rep (n * m) i r := by
        rcases hcase with ⟨_, n', h1, h2⟩ | ⟨_, h1⟩
        · have : n' = n * m := by have := hval.out; omega
          rw [← this]; exact h2
        · have := hval.out; omega
      have hC2 := hQ'.grown hg2 (by simp)
      have hW2 : Below w.heap.size w w2 := hW'.grown hg2 (by have := hW'.size; omega) (by intro k hk; cases hk; omega)
      have HR : Hid (Rep (n * m) i r) := hR
      clear hA hQt hC hD hW hA' hg' hQ' hW' hg2 hs2 hcase hR a0 b0 d0 hfr
      go_wp2_with (first | (refine load_nat rfl _ rfl (w.heap.size + 1 + 1 + 1) rfl i r hN2 hr ?_) | (refine store_nat rfl _ _ rfl rfl (w.heap.size + 1 + 1) i r rfl rfl 0 zP hC2 zP_len hr ?_; intro w3 hN3 hg3 hs3))
      refine bodyPost_ret (v := .agg (natC i r)) (res_nat Try.results59 _ _ (w.heap.size + 1 + 1) _ _ rfl hN3 hr) rfl ⟨i, r, rfl, HR.out, ?_⟩
      exact hW2.grown hg3 (by have := hW2.size; omega) (by intro k hk; cases hk; omega)
end Go.Proofs.Ytcdidibphaemoaa
