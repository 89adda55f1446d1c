/-
  What carry of impl's nats does: every part within its bounds, the same number; or, below 0, false.
-/
import Derived.Test.YtjgpjafndaikcaaDoorRead
import Derived.ScopeJumps
import Derived.WalkMore
import Derived.Deep.WholeRow
namespace Go.Proofs.YtjgpjafndaikcaaDoor
open Go.RowKit
set_option linter.unusedVariables false

theorem hide {p : Prop} (h : p) : Hid p := h
theorem grownBy_trans {a b c : World} {r : Option Nat} (h : a.grownBy b r) (g : b.grownBy c r) : a.grownBy c r :=
  ⟨g.os.trans h.os, g.tape.trans h.tape, g.output.trans h.output, Nat.le_trans h.size g.size, fun k hk hn => (g.block k (Nat.lt_of_lt_of_le hk h.size) hn).trans (h.block k hk hn)⟩

theorem grownBy_drew {w wr : World} {b : Option Nat} (h : w.grownBy wr b) : w.grownBy wr.drew b := ⟨h.os, h.tape, h.output, h.size, h.block⟩

/-- A scope in which the run jumps back to one label, where what holds at every jump holds at the label's first meeting, too. -/
theorem scope_jumps_at {P : Program} {a : Act} {w : World} {Q : Exit → Act → World → Prop} {c rest : Code} (l : Nat) (J : Act → World → Prop) (μ : Act → World → Nat) (hf : findLabel c l = some (Code.skip.seq rest))
    (first : (∀ a w, J a w → rest.wp P (Exit.jump l J Q) a w) → c.wp P (Exit.jump l J Q) a w)
    (pass : ∀ a w, J a w → rest.wp P (Exit.jump l (fun a' w' => J a' w' ∧ μ a' w' < μ a w) Q) a w) : (Code.scope c).wp P Q a w := by
  refine wp_scope_jumps l J μ hf (first fun a w h => Code.wp_mono ?_ (pass a w h)) (fun a w h => wp_seq (wp_skip (pass a w h)))
  intro e a' w' he
  cases e <;> first | exact he | exact ⟨he.1, he.2.1⟩

/-- What parts may be ahead of carry. -/
def CarryBd (p0 : List Int) : Prop := ∀ i, -999999999999999999 ≤ p0.getD i 0 ∧ p0.getD i 0 ≤ 999999999999999999 ∧ (0 < i → -500000000000000000 ≤ p0.getD i 0 ∧ p0.getD i 0 ≤ 500000000000000000)

/-- Where carry stands: the parts below t are within their bounds, the others as they were, o is over. -/
structure Carry (p0 : List Int) (k t : Nat) (o : Int) (p : List Int) : Prop where
  len : p.length = 204
  lo : ∀ i, i < t → 0 ≤ p.getD i 0 ∧ p.getD i 0 < 1000000
  rest : ∀ i, t ≤ i → p.getD i 0 = p0.getD i 0
  val : vb 1000000 p + 1000000 ^ t * o = vb 1000000 p0
  bd : (t ≤ k ∧ -1000000000000 ≤ o ∧ o ≤ 999999999999 ∧ (t = 0 → o = 0)) ∨ (t = k + 1 ∧ 0 ≤ o ∧ o ≤ 999999) ∨ (t = k + 2 ∧ o = 0)

theorem Carry.start (p0 : List Int) (k : Nat) (hl : p0.length = 204) : Carry p0 k 0 0 p0 :=
  ⟨hl, fun i hi => by omega, fun _ _ => rfl, by simp, .inl ⟨by omega, by omega, by omega, fun _ => rfl⟩⟩

/-- One round: q, r: what is over and what stays of o and the part. -/
theorem Carry.step {p0 p : List Int} {k t : Nat} {o q r : Int} (h : Carry p0 k t o p) (hk : k + 2 ≤ 204) (hgo : t < k ∨ 0 < o) (hbd : CarryBd p0) (hout : ∀ i, k ≤ i → p0.getD i 0 = 0)
    (hx : o + p.getD t 0 = 1000000 * q + r) (r0 : 0 ≤ r) (r1 : r < 1000000) : Carry p0 k (t + 1) q (p.set t r) := by
  have ht : t < 204 := by rcases h.bd with b | b | b <;> omega
  have hr := h.rest t (Nat.le_refl _)
  obtain ⟨hb1, hb2, hb3⟩ := hbd t
  refine ⟨by simp [h.len], fun i hi => ?_, fun i hi => ?_, ?_, ?_⟩
  · rw [getD_set _ _ _ _ (by rw [h.len]; exact ht)]; split
    · exact ⟨r0, r1⟩
    · exact h.lo i (by omega)
  · rw [getD_set _ _ _ _ (by rw [h.len]; exact ht), if_neg (by omega)]; exact h.rest i (by omega)
  · rw [vb_set _ _ _ _ (by rw [h.len]; exact ht), ← h.val, Int.pow_succ, Int.mul_assoc]
    have : (1000000 : Int) ^ t * (r - p.getD t 0) + 1000000 ^ t * (1000000 * q) = 1000000 ^ t * o := by
      rw [← Int.mul_add]; congr 1; omega
    omega
  · rcases h.bd with ⟨b1, b2, b3⟩ | ⟨b1, b2, b3⟩ | ⟨b1, b2⟩
    · by_cases e : t < k
      · left
        by_cases e0 : t = 0
        · have := b3.2 e0
          omega
        · have := hb3 (by omega)
          omega
      · have := hout t (by omega)
        right; left
        by_cases e0 : t = 0
        · have := b3.2 e0
          omega
        · omega
    · have := hout t (by omega)
      right; right; omega
    · omega

/-- The end. -/
theorem Carry.end {p0 p : List Int} {k t : Nat} {o : Int} (h : Carry p0 k t o p) (hk : k + 2 ≤ 204) (h1 : ¬ t < k) (h2 : ¬ 0 < o) (hout : ∀ i, k ≤ i → p0.getD i 0 = 0) :
    (o = 0 ∧ ∃ n : Nat, vb 1000000 p0 = (n : Int) ∧ Rep n (trimTo p t) p) ∨ (o < 0 ∧ vb 1000000 p0 < 0) := by
  have lo : ∀ i, 0 ≤ p.getD i 0 := fun i => by
    by_cases e : i < t
    · exact (h.lo i e).1
    · rw [h.rest i (by omega), hout i (by omega)]; omega
  have hi : ∀ i, p.getD i 0 < 1000000 := fun i => by
    by_cases e : i < t
    · exact (h.lo i e).2
    · rw [h.rest i (by omega), hout i (by omega)]; omega
  have out : ∀ i, t ≤ i → p.getD i 0 = 0 := fun i e => by rw [h.rest i e, hout i (by omega)]
  have hv := vb_lt 1000000 (by omega) p t lo hi out
  have hval := h.val
  by_cases e : o = 0
  · left
    subst e
    refine ⟨rfl, (vb 1000000 p0).toNat, by omega, Rep.mk' h.len (by rcases h.bd with b | b | b <;> omega) lo hi out (by omega)⟩
  · right
    have hm : (1000000 : Int) ^ t * o ≤ 1000000 ^ t * (-1) := Int.mul_le_mul_of_nonneg_left (by omega) (by omega)
    omega

def CarryAt (b k : Nat) (p0 : List Int) (w : World) (a' : Act) (w' : World) : Prop :=
  ∃ (t : Nat) (o : Int) (p : List Int) (u5 u6 u7 u8 u9 u10 u11 u12 u13 u14 u15 u16 u17 u18 u19 u20 u21 u22 u23 u24 u25 u26 u27 u28 u29 u30 u31 u32 u33 u34 u35 u36 u37 u38 u39 u40 u41 u42 u43 u44 u45 u46 u47 u48 u49 u50 u51 u52 u53 u54 u55 u56 u57 u58 u59 u60 : Value), a' = { tmps := #[.pointer (some ⟨b, 0, none⟩), undef, .bool false, .int .i64 (t : Int), .int .i64 o, u5, u6, u7, u8, u9, u10, u11, u12, u13, u14, u15, u16, u17, u18, u19, u20, u21, u22, u23, u24, u25, u26, u27, u28, u29, u30, u31, u32, u33, u34, u35, u36, u37, u38, u39, u40, u41, u42, u43, u44, u45, u46, u47, u48, u49, u50, u51, u52, u53, u54, u55, u56, u57, u58, u59, u60], defers := [] } ∧ Carry p0 k t o p ∧ NatAt w' b k p ∧ w.grownBy w' (some b) ∧ w'.heap.size = w.heap.size

set_option maxHeartbeats 1000000 in
set_option maxRecDepth 100000 in
theorem carry_big (b k : Nat) (p0 : List Int) (w : World) (hl : p0.length = 204) (hk : k + 2 ≤ 204) (hN : NatAt w b k p0) (hbd : CarryBd p0) (hout : ∀ i, k ≤ i → p0.getD i 0 = 0) :
    Calls Tryd.prog 39 #[.pointer (some ⟨b, 0, none⟩)] w fun e w' => ∃ (ok : Bool) (j : Nat) (p : List Int), e = .returned (.bool ok) ∧ p.length = 204 ∧ NatAt w' b j p ∧ w.grownBy w' (some b) ∧ w'.heap.size = w.heap.size ∧
      ((ok = true ∧ ∃ n : Nat, vb 1000000 p0 = (n : Int) ∧ Rep n j p) ∨ (ok = false ∧ vb 1000000 p0 < 0)) := by
  have HB : Hid (CarryBd p0) := hbd
  have HO : Hid (∀ i, k ≤ i → p0.getD i 0 = 0) := hout
  clear hbd hout
  go_enter Tryd.func39, Tryd.ntmps39
  go_wp2
  refine scope_jumps_at 0 (CarryAt b k p0 w) (fun a' _ => 206 - (intOf (a'.tmps.getD 3 undef)).toNat) rfl ?_ ?_
  · intro hp
    have HP := hide hp
    clear hp
    go_wp2
    go_step3
    have h1 : CarryAt b k p0 w { tmps := #[.pointer (some ⟨b, 0, none⟩), undef, .bool false, .int .i64 0, .int .i64 0, undef, undef, undef, undef, undef, undef, undef, undef, undef, undef, undef, undef, undef, undef, undef, undef, undef, undef, undef, undef, undef, undef, undef, undef, undef, undef, undef, undef, undef, undef, undef, undef, undef, undef, undef, undef, undef, undef, undef, undef, undef, undef, undef, undef, undef, undef, undef, undef, undef, undef, undef, undef, undef, undef, undef, undef], defers := [] } w := ⟨0, 0, p0, _, _, _, _, _, _, _, _, _, _, _, _, _, _, _, _, _, _, _, _, _, _, _, _, _, _, _, _, _, _, _, _, _, _, _, _, _, _, _, _, _, _, _, _, _, _, _, _, _, _, _, _, _, _, _, _, rfl, Carry.start p0 k hl, hN, ⟨rfl, rfl, rfl, Nat.le_refl _, fun _ _ _ => rfl⟩, rfl⟩
    rename_i hK
    exact hK _ _ (HP.out _ _ h1)
  · rintro a' wr ⟨t, o, p, u5, u6, u7, u8, u9, u10, u11, u12, u13, u14, u15, u16, u17, u18, u19, u20, u21, u22, u23, u24, u25, u26, u27, u28, u29, u30, u31, u32, u33, u34, u35, u36, u37, u38, u39, u40, u41, u42, u43, u44, u45, u46, u47, u48, u49, u50, u51, u52, u53, u54, u55, u56, u57, u58, u59, u60, rfl, hC, hM, hG, hS⟩
    have c0 := hM.c0
    have HC : Hid (Carry p0 k t o p) := hC
    have hp := hC.len
    have hob : -1000000000000 ≤ o ∧ o ≤ 1000000000000 ∧ t ≤ k + 2 := by rcases hC.bd with h | h | h <;> omega
    obtain ⟨ho1, ho2, htk⟩ := hob
    clear hC
    by_cases hgo : t < k ∨ 0 < o
    · have ht : t < 204 := by rcases HC.out.bd with h | h | h <;> omega
      have hti : (t : Int) < 204 := by omega
      have hyb : -999999999999999999 ≤ p.getD t 0 ∧ p.getD t 0 ≤ 999999999999999999 := by rw [HC.out.rest t (Nat.le_refl _)]; exact ⟨(HB.out t).1, (HB.out t).2.1⟩
      have c1 := hM.cs t (by omega)
      obtain ⟨y, hy⟩ : ∃ y, y = p.getD t 0 := ⟨_, rfl⟩
      rw [← hy] at c1 hyb
      have HY : Hid (y = p.getD t 0) := hy
      obtain ⟨hy1, hy2⟩ := hyb
      have hfr := hM.fr (1 + t)
      clear hy
      by_cases hx : 0 ≤ o + y
      · have hC' := HC.out.step (q := (o + y) / 1000000) (r := (o + y) % 1000000) hk hgo HB.out HO.out (by rw [← HY.out]; omega) (by omega) (by omega)
        have hM' := hM.setS t ((o + y) % 1000000)
        have hG' := grownBy_set hG (1 + t) (.int .i64 ((o + y) % 1000000))
        have hS' := (size_setCell wr ⟨b, 1 + t, none⟩ (.int .i64 ((o + y) % 1000000))).trans hS
        have HH : Hid (Carry p0 k (t + 1) ((o + y) / 1000000) (p.set t ((o + y) % 1000000)) ∧ NatAt (wr.setCell ⟨b, 1 + t, none⟩ (.int .i64 ((o + y) % 1000000))) b k (p.set t ((o + y) % 1000000)) ∧ w.grownBy (wr.setCell ⟨b, 1 + t, none⟩ (.int .i64 ((o + y) % 1000000))) (some b) ∧ (wr.setCell ⟨b, 1 + t, none⟩ (.int .i64 ((o + y) % 1000000))).heap.size = w.heap.size) := ⟨hC', hM', hG', hS'⟩
        clear hC' hM' hG' hS' hG hS
        go_wp2
        all_goals
          go_step3
          obtain ⟨hC', hM', hG', hS'⟩ := HH.out
          refine ⟨rfl, ⟨t + 1, _, _, _, _, _, _, _, _, _, _, _, _, _, _, _, _, _, _, _, _, _, _, _, _, _, _, _, _, _, _, _, _, _, _, _, _, _, _, _, _, _, _, _, _, _, _, _, _, _, _, _, _, _, _, _, _, _, _, rfl, hC', hM', hG', hS'⟩, ?_⟩
          show 206 - (t + 1) < 206 - t
          omega
      · obtain ⟨q0, hq0⟩ : ∃ q, (o + y).tdiv 1000000 = q := ⟨_, rfl⟩
        obtain ⟨r0, hr0⟩ : ∃ r, (o + y).tmod 1000000 = r := ⟨_, rfl⟩
        have hxy := Int.mul_tdiv_add_tmod (o + y) 1000000
        rw [hq0, hr0] at hxy
        have hr1 : -1000000 < r0 := by rw [← hr0]; have := Int.lt_tmod_of_pos (o + y) (b := 1000000) (by omega); omega
        have hr2 : r0 ≤ 0 := by
          rw [← hr0]; have := Int.tmod_nonneg 1000000 (a := -(o + y)) (by omega); rw [Int.neg_tmod] at this; omega
        have HXY : Hid (1000000 * q0 + r0 = o + y) := hxy
        have hq1 : -2000000000000 ≤ q0 := by omega
        have hq2 : q0 ≤ 0 := by omega
        clear hxy
        by_cases hz : r0 = 0
        · subst hz
          have hC' := HC.out.step (q := q0) (r := 0) hk hgo HB.out HO.out (by rw [← HY.out]; have := HXY.out; omega) (by omega) (by omega)
          have hM' := hM.setS t 0
          have HH : Hid (Carry p0 k (t + 1) q0 (p.set t 0) ∧ NatAt (wr.setCell ⟨b, 1 + t, none⟩ (.int .i64 0)) b k (p.set t 0) ∧ w.grownBy (wr.setCell ⟨b, 1 + t, none⟩ (.int .i64 0)) (some b) ∧ (wr.setCell ⟨b, 1 + t, none⟩ (.int .i64 0)).heap.size = w.heap.size) := ⟨hC', hM', grownBy_set hG _ _, (size_setCell _ _ _).trans hS⟩
          clear hC' hM' hG hS
          go_wp2
          all_goals
            go_step3
            obtain ⟨hC', hM', hG', hS'⟩ := HH.out
            refine ⟨rfl, ⟨t + 1, _, _, _, _, _, _, _, _, _, _, _, _, _, _, _, _, _, _, _, _, _, _, _, _, _, _, _, _, _, _, _, _, _, _, _, _, _, _, _, _, _, _, _, _, _, _, _, _, _, _, _, _, _, _, _, _, _, _, rfl, hC', hM', hG', hS'⟩, ?_⟩
            show 206 - (t + 1) < 206 - t
            omega
        · have hrn : r0 < 0 := by omega
          have hC' := HC.out.step (q := q0 - 1) (r := r0 + 1000000) hk hgo HB.out HO.out (by rw [← HY.out]; have := HXY.out; omega) (by omega) (by omega)
          obtain ⟨w2, hw2⟩ : ∃ w2, w2 = wr.setCell ⟨b, 1 + t, none⟩ (.int .i64 r0) := ⟨_, rfl⟩
          have hM2 : NatAt w2 b k (p.set t r0) := by rw [hw2]; exact hM.setS t r0
          have c2 := hM2.cs t (by rw [List.length_set]; omega)
          rw [getD_set _ _ _ _ (by omega), if_pos rfl] at c2
          have hfr2 := hM2.fr (1 + t)
          have hM3 := NatAt.setS (w := w2.drew) hM2 t (r0 + 1000000)
          rw [List.set_set] at hM3
          have hG2 : w.grownBy w2.drew (some b) := by rw [hw2]; exact grownBy_drew (grownBy_set hG _ _)
          have hS2 : w2.drew.heap.size = w.heap.size := by rw [hw2]; exact (size_setCell _ _ _).trans hS
          have HH : Hid (Carry p0 k (t + 1) (q0 - 1) (p.set t (r0 + 1000000)) ∧ NatAt (w2.drew.setCell ⟨b, 1 + t, none⟩ (.int .i64 (r0 + 1000000))) b k (p.set t (r0 + 1000000)) ∧ w.grownBy (w2.drew.setCell ⟨b, 1 + t, none⟩ (.int .i64 (r0 + 1000000))) (some b) ∧ (w2.drew.setCell ⟨b, 1 + t, none⟩ (.int .i64 (r0 + 1000000))).heap.size = w.heap.size) := ⟨hC', hM3, grownBy_set hG2 _ _, (size_setCell _ _ _).trans hS2⟩
          have HW : Hid (w2 = wr.setCell ⟨b, 1 + t, none⟩ (.int .i64 r0)) := hw2
          clear hz hC' hM3 hG2 hS2 hM2 hw2 hG hS
          go_wp2
          all_goals
            rw [← HW.out]
            clear c0 c1 hfr
            refine wp_region_still_tail 10 (by kernel_rfl) (by kernel_rfl) ?_
            simp only [List.take_succ_cons, List.take_zero, List.drop_succ_cons, List.drop_zero]
            repeat still_step
            refine wpStill_nil ?_
            go_wp2
            go_step3
            obtain ⟨hC', hM', hG', hS'⟩ := HH.out
            refine ⟨rfl, ⟨t + 1, _, _, _, _, _, _, _, _, _, _, _, _, _, _, _, _, _, _, _, _, _, _, _, _, _, _, _, _, _, _, _, _, _, _, _, _, _, _, _, _, _, _, _, _, _, _, _, _, _, _, _, _, _, _, _, _, _, _, rfl, hC', hM', hG', hS'⟩, ?_⟩
            show 206 - (t + 1) < 206 - t
            omega
    · have hg1 : ¬ (t : Int) < (k : Int) := by omega
      have hg2 : ¬ 0 < o := by omega
      have hfr := hM.fr 0
      go_wp2_with fail
      have hM' := hM.set0 (t : Int)
      have hG' := grownBy_set hG 0 (.int .i64 (t : Int))
      have hS' := (size_setCell wr ⟨b, 0, none⟩ (.int .i64 (t : Int))).trans hS
      refine (trim_any b t p _ hp (by omega) hM').mono ?_
      rintro e w2 ⟨rfl, hN2, hg2', hs2⟩
      have hE := HC.out.end hk (by omega) (by omega) HO.out
      have HE : Hid ((o = 0 ∧ ∃ n : Nat, vb 1000000 p0 = (n : Int) ∧ Rep n (trimTo p t) p) ∨ (o < 0 ∧ vb 1000000 p0 < 0)) := hE
      have hG2 : w.grownBy w2 (some b) := grownBy_trans hG' hg2'
      have hS2 := hs2.trans hS'
      clear hM' hG' hS' hE hM hG hS c0 hfr hg2' hs2
      by_cases ho : o = 0
      · subst ho
        go_wp2
        simp only [Exit.jump]
        go_ret
        rcases HE.out with ⟨_, n, h1, h2⟩ | ⟨h, _⟩
        · exact ⟨true, _, p, rfl, hp, hN2, hG2, hS2, .inl ⟨rfl, n, h1, h2⟩⟩
        · omega
      · have hob : (o == 0) = false := by simpa using ho
        go_wp2
        simp only [Exit.jump]
        go_ret
        rcases HE.out with ⟨h, _⟩ | ⟨_, h⟩
        · omega
        · exact ⟨false, _, p, rfl, hp, hN2, hG2, hS2, .inr ⟨rfl, h⟩⟩

theorem carry_any (b k : Nat) (p0 : List Int) (w : World) (hl : p0.length = 204) (hk : k + 2 ≤ 204) (hN : NatAt w b k p0) (hbd : ∀ i, -400000000000000 ≤ p0.getD i 0 ∧ p0.getD i 0 ≤ 400000000000000) (hout : ∀ i, k ≤ i → p0.getD i 0 = 0) :
    Calls Tryd.prog 39 #[.pointer (some ⟨b, 0, none⟩)] w fun e w' => ∃ (ok : Bool) (j : Nat) (p : List Int), e = .returned (.bool ok) ∧ p.length = 204 ∧ NatAt w' b j p ∧ w.grownBy w' (some b) ∧ w'.heap.size = w.heap.size ∧
      ((ok = true ∧ ∃ n : Nat, vb 1000000 p0 = (n : Int) ∧ Rep n j p) ∨ (ok = false ∧ vb 1000000 p0 < 0)) :=
  carry_big b k p0 w hl hk hN (fun i => ⟨by have := hbd i; omega, by have := hbd i; omega, fun _ => by have := hbd i; omega⟩) hout
end Go.Proofs.YtjgpjafndaikcaaDoor
