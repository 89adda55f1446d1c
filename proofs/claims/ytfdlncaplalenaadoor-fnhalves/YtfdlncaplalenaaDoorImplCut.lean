/-
  What cut of impl's nats answers: what stands ahead of the last so many digits, and these.
-/
import Derived.Test.YtfdlncaplalenaaDoorImplUp
import Derived.Test.YtfdlncaplalenaaDoorBaseMany
import Derived.Test.YtfdlncaplalenaaDoorPkDivideA
namespace Go.Proofs.YtfdlncaplalenaaDoor
open Go.RowKit
set_option linter.unusedVariables false

theorem getD_dropN (l : List Int) (a j : Nat) : (l.drop a).getD j 0 = l.getD (a + j) 0 := by
  simp only [List.getD, List.getElem?_drop]
/-- The parts from number s on tell the quotient, those ahead of it the rest. -/
theorem Rep.halves {n k : Nat} {p : List Int} (h : Rep n k p) (s : Nat) (hs : s ≤ 204) : vb 1000000 (p.drop s) = ((n / 10 ^ (6 * s) : Nat) : Int) ∧ vb 1000000 (p.take s) = ((n % 10 ^ (6 * s) : Nat) : Int) := by
  have h1 := vb_split 1000000 p s (by rw [h.len]; exact hs)
  have tk : ∀ i, (p.take s).getD i 0 = if i < s then p.getD i 0 else 0 := fun i => by
    simp only [List.getD, List.getElem?_take]
    split <;> rfl
  have h2 := vb_lt 1000000 (by decide) (p.take s) s (fun i => by rw [tk]; split; exact h.lo i; exact Int.le_refl _) (fun i => by rw [tk]; split; exact h.hi i; decide) (fun i hi => by rw [tk, if_neg (by omega)])
  have h3 := vb_lt 1000000 (by decide) (p.drop s) k (fun i => by rw [getD_dropN]; exact h.lo _) (fun i => by rw [getD_dropN]; exact h.hi _) (fun i hi => by rw [getD_dropN]; exact h.out _ (by omega))
  have e : (1000000 : Int) ^ s = ((10 ^ (6 * s) : Nat) : Int) := by
    rw [Nat.pow_mul, Int.natCast_pow]; rfl
  rw [h.val, e] at h1
  rw [e] at h2
  have hp : 0 < 10 ^ (6 * s) := Nat.pow_pos (by decide)
  obtain ⟨B, hB⟩ : ∃ B, B = 10 ^ (6 * s) := ⟨_, rfl⟩
  obtain ⟨x, hx⟩ := Int.eq_ofNat_of_zero_le h2.1
  obtain ⟨y, hy⟩ := Int.eq_ofNat_of_zero_le h3.1
  rw [hx] at h1 h2 ⊢
  rw [hy] at h1 ⊢
  rw [← hB] at h1 h2 hp ⊢
  have h4 : n = x + B * y := by
    have : (n : Int) = ((x + B * y : Nat) : Int) := by rw [h1]; simp
    exact Int.ofNat.inj this
  have h5 : x < B := Int.ofNat_lt.1 h2.2
  rw [h4, Nat.add_mul_div_left _ _ hp, Nat.div_eq_of_lt h5, Nat.add_mul_mod_self_left, Nat.mod_eq_of_lt h5]
  simp
/-- The parts ahead. -/
theorem Rep.high {n k s : Nat} {p : List Int} (h : Rep n k p) (hs : s < k) : Rep (n / 10 ^ (6 * s)) (k - s) (upP 0 (k - s) (p.drop s)) := by
  have hk := h.le
  have hl := h.len
  have hld : (p.drop s).length = 204 - s := by rw [List.length_drop, hl]
  have g : ∀ j, (upP 0 (k - s) (p.drop s)).getD j 0 = if j < k - s then p.getD (s + j) 0 else 0 := fun j => by
    rw [upP_get (by rw [hld]; omega)]
    simp only [Nat.zero_le, true_and, Nat.zero_add, Nat.sub_zero, getD_dropN]
  constructor
  · simp [upP, hl]; omega
  · omega
  · intro j; rw [g]; split; exact h.lo _; exact Int.le_refl _
  · intro j; rw [g]; split; exact h.hi _; decide
  · intro j hj; rw [g, if_neg (by omega)]
  · intro h0; rw [g, if_pos (by omega), show s + (k - s - 1) = k - 1 by omega]; exact h.top (by omega)
  · unfold upP
    rw [vb_append, vb_append, vb_repl, vb_repl, List.length_replicate, vb_take_out _ _ _ (by rw [hld]; omega) (fun i hi => by rw [getD_dropN]; exact h.out _ (by omega)), (h.halves s (by omega)).1]
    simp
/-- The parts behind, with the rest of the one that is cut. -/
theorem Rep.low {n k s m : Nat} {p : List Int} (h : Rep n k p) (hs : s < k) (hm : m ≤ 5) (x : Int) (hx : x = ((n / 10 ^ (6 * s) % 10 ^ m : Nat) : Int)) :
    Rep (n % 10 ^ (6 * s + m)) (trimTo ((upP 0 s p).set s x) (s + 1)) ((upP 0 s p).set s x) := by
  have hk := h.le
  have hl := h.len
  have hul : (upP 0 s p).length = 204 := upP_len (by omega) hl
  have hx0 : 0 ≤ x := by rw [hx]; exact Int.natCast_nonneg _
  have hx1 : x < 1000000 := by
    have h1 : n / 10 ^ (6 * s) % 10 ^ m < 10 ^ m := Nat.mod_lt _ (Nat.pow_pos (by decide))
    have h2 : 10 ^ m ≤ 10 ^ 5 := Nat.pow_le_pow_right (by decide) hm
    have e5 : (10 : Nat) ^ 5 = 100000 := by decide
    omega
  have g : ∀ j, ((upP 0 s p).set s x).getD j 0 = if j = s then x else if j < s then p.getD j 0 else 0 := fun j => by
    rw [getD_set _ _ _ _ (by omega), upP_get (by omega)]
    simp only [Nat.zero_le, true_and, Nat.zero_add, Nat.sub_zero]
  have hout : ∀ i, s + 1 ≤ i → ((upP 0 s p).set s x).getD i 0 = 0 := fun i hi => by rw [g, if_neg (by omega), if_neg (by omega)]
  constructor
  · simp [hul]
  · exact Nat.le_trans (trimTo_le _ _) (by omega)
  · intro j; rw [g]; split; exact hx0; split; exact h.lo _; exact Int.le_refl _
  · intro j; rw [g]; split; exact hx1; split; exact h.hi _; decide
  · exact trimTo_out _ _ hout
  · exact trimTo_top _ _
  · have h1 := vb_split 1000000 ((upP 0 s p).set s x) s (by simp [hul]; omega)
    have h2 : ((upP 0 s p).set s x).take s = p.take s := by
      rw [List.take_set_of_le (Nat.le_refl s)]
      unfold upP
      simp only [List.replicate_zero, List.nil_append]
      rw [List.take_append_of_le_length (by simp [hl]; omega), List.take_take, Nat.min_self]
    have h3 : vb 1000000 (((upP 0 s p).set s x).drop s) = x := by
      have e : ((upP 0 s p).set s x).drop s = x :: ((upP 0 s p).set s x).drop (s + 1) := by
        rw [List.drop_eq_getElem_cons (by simp [hul]; omega)]
        simp
      rw [e]
      simp only [vb]
      rw [vb_zero _ _ (fun i => by rw [getD_dropN]; exact hout _ (by omega))]
      simp
    rw [h1, h2, h3, (h.halves s (by omega)).2, hx]
    have e : (1000000 : Int) ^ s = ((10 ^ (6 * s) : Nat) : Int) := by
      rw [Nat.pow_mul, Int.natCast_pow]; rfl
    rw [e, Nat.pow_add, Nat.mod_mul]
    simp

/-- The beginning of a region whose stores may come up early. -/
theorem many_beginN {ops : Array Oper} {Q : Exit → Act → World → Prop} {a : Act} {w : World} {id : Nat} (ps : List (Nat × (World → Prop))) (S : World → Prop) (hm : Tryd.prog.follows .mixedOrders = true) (h : BL.wpAnyM Tryd.prog .any ops (NoPanic Q) ps S ops.size (Array.replicate ops.size false) a w.drew) : (Code.region id ops true).wp Tryd.prog Q a w :=
  wp_region_noPanic (wp_region_any hm (BL.wpAny_of_many _ _ _ _ h))
/-- A call in it. -/
theorem many_callN {ops : Array Oper} {Q : Exit → Act → World → Prop} {md : Region.Mode} {ps : List (Nat × (World → Prop))} {S : World → Prop} {o : Oper} {fuel : Nat} {listed : Array Bool} {a : Act} {w : World} (i : Nat) (d : Option Tmp) (hr : Region.ready md ops listed = [i]) (hi : ops[i]? = some o) (hw : Region.wanted o (yielded ops a.tmps) = true) (hd : o.dst = d) (f : FuncId) (args : Array Value)
    (he : (execOp a.eval o).run Tryd.prog w = .ok (.enter f args) w) (R : Ending → World → Prop) (hc : Calls Tryd.prog f args w R)
    (h : ∀ e w', R e w' → ∃ v, e = .returned v ∧ BL.LateAll ps S (listed.setIfInBounds i true) w' ∧ BL.wpAnyM Tryd.prog md ops Q ps S fuel (listed.setIfInBounds i true) (a.put d v) w') : BL.wpAnyM Tryd.prog md ops Q ps S (fuel + 1) listed a w := by
  subst hd
  refine BL.many_one i hr hi hw fun K hK => ?_
  unfold Oper.wp
  rw [he]
  simp only [Oper.upon]
  refine hc.mono ?_
  intro e w' hR
  obtain ⟨v, rfl, hS, hn⟩ := h e w' hR
  exact hK.out _ _ hS hn
/-- A nat is stored in it. -/
theorem many_store_nat {ops : Array Oper} {Q : Exit → Act → World → Prop} {md : Region.Mode} {ps : List (Nat × (World → Prop))} {S : World → Prop} {o : Oper} {fuel : Nat} {listed : Array Bool} {a : Act} {w : World} (i : Nat) (hr : Region.ready md ops listed = [i]) (hi : ops[i]? = some o) (hw : Region.wanted o (yielded ops a.tmps) = true) (x y : Operand) (ho : o.op = .store 41 x y) (hd : o.dst = none)
    (b : Nat) (u : Int) (p : List Int) (hx : a.eval x = .pointer (some ⟨b, 0, none⟩)) (hy : a.eval y = .agg (natC u p)) (u0 : Int) (p0 : List Int) (hN : NatAt w b u0 p0) (h0 : p0.length = 204) (hl : p.length = 204)
    (h : ∀ w', NatAt w' b u p → w.grownBy w' (some b) → w'.heap.size = w.heap.size → BL.LateAll ps S (listed.setIfInBounds i true) w' ∧ BL.wpAnyM Tryd.prog md ops Q ps S fuel (listed.setIfInBounds i true) a w') : BL.wpAnyM Tryd.prog md ops Q ps S (fuel + 1) listed a w := by
  refine BL.many_one i hr hi hw fun K hK => ?_
  refine wp_store_row 41 x y ho b (natC u p) hx hy 41 (natC u0 p0) hN (nat_info u p hl) (by rw [natC_size, natC_size, h0, hl]) (natC_one _ _) ?_
  rw [hd]
  have := h _ (setRow_heap w b _ _ _ _ hN) ⟨rfl, rfl, rfl, by simp, fun k _ hne => setRow_other w b k _ (by intro e; exact hne (by rw [e]))⟩ (by simp)
  exact hK.out _ _ this.1 this.2
theorem late9 {f : World → Prop} {L : Array Bool} {w : World} (h1 : L.getD 9 false = true ∨ f w) : BL.LateAll [(9, f)] (fun _ => True) L w := by
  refine ⟨trivial, fun p hp => ?_⟩
  simp only [List.mem_cons, List.not_mem_nil, or_false] at hp
  subst hp
  exact h1
theorem not9 {f : World → Prop} (i : Nat) (h1 : 9 ≠ i) : ∀ p ∈ ([(9, f)] : List (Nat × (World → Prop))), p.1 ≠ i := by
  intro p hp
  simp only [List.mem_cons, List.not_mem_nil, or_false] at hp
  subst hp
  exact h1

theorem built_nat0 : Tryd.prog.built 41 [] = some (natC 0 zP) := by kernel_rfl
theorem run_build0 {o : Oper} {a : Act} {w : World} (T : TypeId) (ho : o.op = .build T #[]) (c : Array Value) (hb : Tryd.prog.built T [] = some c) :
    (execOp a.eval o).run Tryd.prog w = .ok (.value (.agg c)) w := by
  have h := run_build (P := Tryd.prog) w T #[] c hb
  unfold execOp
  simp only [ho, Sem.run_bind, Sem.run_pure]
  simp at h ⊢
  simp [h]

/-- What cut answers. -/
def CutAns (n d : Nat) (w : World) (e : Ending) (w' : World) : Prop :=
  ∃ (i : Nat) (r : List Int) (j : Nat) (s : List Int), e = .returned (.tuple #[.agg (natC i r), .agg (natC j s)]) ∧ Rep (n / 10 ^ d) i r ∧ Rep (n % 10 ^ d) j s ∧ Below w.heap.size w w'

set_option maxHeartbeats 4000000 in
set_option maxRecDepth 100000 in
theorem cutN_any {n k : Nat} {p : List Int} (d : Nat) (w : World) (hP : Rep n k p) (hd : d ≤ 100000) :
    Calls Tryd.prog 16 #[.agg (natC k p), .int .i64 (d : Int)] w (CutAns n d w) := by
  have hz := zero_nat.1
  have hp := hP.len
  have hk4 := hP.le
  have A := ((NatAt.new w k p).old (.cells (natC 0 zP) 41)).old (.cells (natC 0 zP) 41)
  have B := (NatAt.new (w.alloc (.cells (natC k p) 41)) 0 zP).old (.cells (natC 0 zP) 41)
  have C := NatAt.new ((w.alloc (.cells (natC k p) 41)).alloc (.cells (natC 0 zP) 41)) 0 zP
  have hB : Below w.heap.size w (((w.alloc (.cells (natC k p) 41)).alloc (.cells (natC 0 zP) 41)).alloc (.cells (natC 0 zP) 41)) := (((Below.refl _ _).alloc (Nat.le_refl _) _).alloc (by first | (simp; done) | (simp; omega)) _).alloc (by first | (simp; done) | (simp; omega)) _
  have hws : (((w.alloc (.cells (natC k p) 41)).alloc (.cells (natC 0 zP) 41)).alloc (.cells (natC 0 zP) 41)).heap.size = w.heap.size + 1 + 1 + 1 := by simp
  simp only [World.size_alloc] at B C
  obtain ⟨m, hm⟩ : ∃ m, m = d % 6 := ⟨_, rfl⟩
  obtain ⟨s, hs⟩ : ∃ s, s = d / 6 := ⟨_, rfl⟩
  have hm6 : m ≤ 5 := by omega
  have hrm : (d : Int).tmod 6 = (m : Int) := by rw [Int.tmod_eq_emod_of_nonneg (by omega)]; omega
  have hqt : (d : Int).tdiv 6 = (s : Int) := by rw [Int.tdiv_eq_ediv_of_nonneg (by omega)]; omega
  have hD : d = 6 * s + m := by omega
  have hs1 : s ≤ 20000 := by omega
  have HD := hide hD
  by_cases hks : (k : Int) ≤ (s : Int)
  · have HA : Hid (Rep (n / 10 ^ d) 0 zP ∧ Rep (n % 10 ^ d) k p) := by
      have h1 : n < 10 ^ d := by
        have h2 := hP.ltN
        have h3 : (1000000 : Nat) ^ k ≤ 10 ^ d := by
          rw [show (1000000 : Nat) = 10 ^ 6 by decide, ← Nat.pow_mul]
          exact Nat.pow_le_pow_right (by decide) (by omega)
        omega
      refine ⟨?_, ?_⟩
      · rw [Nat.div_eq_of_lt h1]; exact zero_rep
      · rw [Nat.mod_eq_of_lt h1]; exact hP
    clear hP hD hm hs
    have a0 := A.c0
    go_enter Tryd.func16, Tryd.ntmps16
    generalize hw0 : ((w.alloc (.cells (natC k p) 41)).alloc (.cells (natC 0 zP) 41)).alloc (.cells (natC 0 zP) 41) = w0 at A B C hB hws a0
    go_wp2_with fail
    clear hw0 a0
    refine held_begin (fun w' => NatAt w' w.heap.size k p) (by kernel_rfl) ?_
    have hS : NatAt w0.drew w.heap.size k p := A
    refine held_val 0 (some 15) rfl rfl (by kernel_rfl) (by kernel_rfl) (by kernel_rfl) noPanic_put rfl (.agg (natC 0 zP)) (fun _ => run_build0 41 rfl _ built_nat0) hS ?_
    simp only [Act.put, List.setIfInBounds_toArray, List.set_cons_zero, List.set_cons_succ]
    refine held_load 1 (some 16) rfl rfl (by kernel_rfl) (by kernel_rfl) (by kernel_rfl) noPanic_put rfl _ rfl w.heap.size rfl k p (fun _ h => h) hp hS ?_
    simp only [Act.put, List.setIfInBounds_toArray, List.set_cons_zero, List.set_cons_succ]
    refine held_store 2 (by kernel_rfl) rfl rfl _ _ rfl rfl (w.heap.size + 1) 0 zP rfl rfl 0 zP B zP_len zP_len ?_
    intro w5 hN5 hg5 hs5
    refine ⟨NatAt.grown (w := w0.drew) hS hg5 (by first | (simp; done) | (simp; omega)), ?_⟩
    refine held_store 3 (by kernel_rfl) rfl rfl _ _ rfl rfl (w.heap.size + 1 + 1) k p rfl rfl 0 zP (NatAt.grown (w := w0.drew) C hg5 (by first | (simp; done) | (simp; omega))) zP_len hp ?_
    intro w6 hN6 hg6 hs6
    have hs5' : w5.heap.size = w.heap.size + 1 + 1 + 1 := by rw [hs5]; exact hws
    refine ⟨(NatAt.grown (w := w0.drew) hS hg5 (by first | (simp; done) | (simp; omega))).grown hg6 (by first | (simp; done) | (simp; omega)), ?_⟩
    refine wpAnyH_done (by kernel_rfl) ?_ _
    refine NoPanic.normal ?_
    go_wp2
    refine bodyPost_ret (v := .tuple #[.agg (natC 0 zP), .agg (natC k p)]) (res_nat2 Tryd.results16 _ _ (w.heap.size + 1) (w.heap.size + 1 + 1) _ _ _ _ rfl rfl (hN5.grown hg6 (by first | (simp; done) | (simp; omega))) hN6 zP_len hp) rfl ⟨0, zP, k, p, rfl, HA.out.1, HA.out.2, ?_⟩
    have hB5 : Below w.heap.size w w5 := hB.drew.grown hg5 (by show _ ≤ w0.heap.size; omega) (by intro k hk; cases hk; omega)
    exact hB5.grown hg6 (by omega) (by intro k hk; cases hk; omega)
  · have hsk : s < k := by omega
    obtain ⟨u, hu⟩ : ∃ u, u = k - s := ⟨_, rfl⟩
    have hwu : IntKind.i64.wrap ((k : Int) - (s : Int)) = (u : Int) := by rw [IntKind.wrap_i64]; omega
    have hws1 : IntKind.i64.wrap ((s : Int) + 1) = ((s + 1 : Nat) : Int) := by rw [IntKind.wrap_i64]; omega
    have hRH := hP.high hsk
    rw [← hu] at hRH
    have HP := hide hP
    have HRH := hide hRH
    have HU := hide hu
    have hu204 : u ≤ 204 := by omega
    have hsu : s + u ≤ 204 := by omega
    clear hP hD hm hs hRH hu
    have a0 := A.c0
    go_enter Tryd.func16, Tryd.ntmps16
    generalize hw0 : ((w.alloc (.cells (natC k p) 41)).alloc (.cells (natC 0 zP) 41)).alloc (.cells (natC 0 zP) 41) = w0 at A B C hB hws a0
    have D0 := (NatAt.new w0 0 zP).old (.cells (natC 0 zP) 41)
    have E0 := NatAt.new (w0.alloc (.cells (natC 0 zP) 41)) 0 zP
    simp only [World.size_alloc] at E0
    have HWS := hide hws
    clear hws
    go_wp2_with (first | (refine Great.wpList_buildTo rfl 41 #[(0, .tmp 20)] rfl _ rfl (natC u zP) (built_natU u) ?_) | (refine Great.wpList_buildTo rfl 41 #[(0, .tmp 23)] rfl _ rfl (natC ((s + 1 : Nat) : Int) zP) (built_natU _) ?_) | (refine store_nat rfl (.tmp 7) _ rfl rfl w0.heap.size u zP rfl (by first | rfl | exact congrArg Value.agg (natC_set0 _ _ _)) 0 zP D0 zP_len zP_len ?_; intro w1 hN1 hg1 hs1; have E1 := E0.grown hg1 (by first | (simp; done) | (simp; omega))) | (refine store_nat rfl (.tmp 8) _ rfl rfl (w0.heap.size + 1) ((s + 1 : Nat) : Int) zP rfl (by first | rfl | exact congrArg Value.agg (natC_set0 _ _ _)) 0 zP E1 zP_len zP_len ?_; intro w2 hN2 hg2 hs2))
    have hws := HWS.out
    have hs1' : w1.heap.size = w0.heap.size + 1 + 1 := by rw [hs1]; simp
    have hs2' : w2.heap.size = w0.heap.size + 1 + 1 := by rw [hs2]; exact hs1'
    have hB1 : Below w.heap.size w w1 := ((hB.alloc hB.size _).alloc (by simp; have := hB.size; omega) _).grown hg1 (by simp; omega) (by intro k hk; cases hk; omega)
    have hB2 : Below w.heap.size w w2 := hB1.grown hg2 (by omega) (by intro k hk; cases hk; omega)
    have A1 : NatAt w1 w.heap.size k p := ((A.old (.cells (natC 0 zP) 41)).old (.cells (natC 0 zP) 41)).grown hg1 (by simp; omega)
    have B1 : NatAt w1 (w.heap.size + 1) 0 zP := ((B.old (.cells (natC 0 zP) 41)).old (.cells (natC 0 zP) 41)).grown hg1 (by simp; omega)
    have C1 : NatAt w1 (w.heap.size + 1 + 1) 0 zP := ((C.old (.cells (natC 0 zP) 41)).old (.cells (natC 0 zP) 41)).grown hg1 (by simp; omega)
    have A2 := A1.grown hg2 (by first | (simp; done) | (simp; omega))
    have B2 := B1.grown hg2 (by first | (simp; done) | (simp; omega))
    have C2 := C1.grown hg2 (by first | (simp; done) | (simp; omega))
    have D2 : NatAt w2 w0.heap.size u zP := hN1.grown hg2 (by first | (simp; done) | (simp; omega))
    clear A B C D0 E0 E1 hB hB1 A1 B1 C1 hN1 hg1 hs1 hg2 hs2 hs1' hw0 a0
    have hsl : (s : Int) ≤ 204 := by omega
    have hkl : (k : Int) ≤ 204 := by omega
    have hskl : (s : Int) ≤ (k : Int) := by omega
    refine held_begin (fun w' => NatAt w' w.heap.size k p) (by kernel_rfl) ?_
    have hS : NatAt w2.drew w.heap.size k p := A2
    refine held_val 0 (some 25) rfl rfl (by kernel_rfl) (by kernel_rfl) (by kernel_rfl) noPanic_put rfl (.pointer (some ⟨w0.heap.size, 1, none⟩)) (fun _ => by go_simp) hS ?_
    simp only [Act.put, List.setIfInBounds_toArray, List.set_cons_zero, List.set_cons_succ]
    refine held_val 1 (some 26) rfl rfl (by kernel_rfl) (by kernel_rfl) (by kernel_rfl) noPanic_put rfl (.slice (some ⟨w0.heap.size, 1, none⟩) 204 204) (fun _ => by go_simp) hS ?_
    simp only [Act.put, List.setIfInBounds_toArray, List.set_cons_zero, List.set_cons_succ]
    refine held_val 2 (some 27) rfl rfl (by kernel_rfl) (by kernel_rfl) (by kernel_rfl) noPanic_put rfl (.pointer (some ⟨w.heap.size, 1, none⟩)) (fun _ => by go_simp) hS ?_
    simp only [Act.put, List.setIfInBounds_toArray, List.set_cons_zero, List.set_cons_succ]
    refine held_val 3 (some 28) rfl rfl (by kernel_rfl) (by kernel_rfl) (by kernel_rfl) noPanic_put rfl (.int .i64 (s : Int)) (fun _ => by go_simp) hS ?_
    simp only [Act.put, List.setIfInBounds_toArray, List.set_cons_zero, List.set_cons_succ]
    refine held_val 4 (some 29) rfl rfl (by kernel_rfl) (by kernel_rfl) (by kernel_rfl) noPanic_put rfl (.pointer (some ⟨w.heap.size, 0, none⟩)) (fun _ => by go_simp) hS ?_
    simp only [Act.put, List.setIfInBounds_toArray, List.set_cons_zero, List.set_cons_succ]
    refine held_valS 5 (some 30) rfl rfl (by kernel_rfl) (by kernel_rfl) (by kernel_rfl) noPanic_put rfl (.int .i64 (k : Int)) (fun _ h => BL.run_cell1 (.tmp 29) 3 rfl ⟨w.heap.size, 0, none⟩ rfl _ Tryd.underlying3 rfl h.c0) hS ?_
    simp only [Act.put, List.setIfInBounds_toArray, List.set_cons_zero, List.set_cons_succ]
    refine held_val 6 (some 31) rfl rfl (by kernel_rfl) (by kernel_rfl) (by kernel_rfl) noPanic_put rfl (.slice (some ⟨w.heap.size, 1 + s, none⟩) (k - s) (204 - s)) (fun _ => by go_simp; omega) hS ?_
    simp only [Act.put, List.setIfInBounds_toArray, List.set_cons_zero, List.set_cons_succ]
    have hcp := run_copy_row Tryd.prog w2.drew 37 37 3 3 w0.heap.size 1 204 204 ⟨w.heap.size, 1 + s, none⟩ (k - s) (204 - s) (natC u zP) 41 (((p.drop s).take u).map (Value.int .i64)) Tryd.underlying37 ints_info D2 (by rw [List.length_map, List.length_take, List.length_drop, hp]; show min u (204 - s) = min (k - s) 204; have := HU.out; omega) (fun j v hv => by
      rw [List.getElem?_map] at hv
      have hj : j < u := by
        rcases Nat.lt_or_ge j u with h | h
        · exact h
        · rw [List.getElem?_eq_none (by simp; omega)] at hv; cases hv
      rw [List.getElem?_take_of_lt hj, List.getElem?_drop, List.getElem?_eq_getElem (by omega)] at hv
      have h2 := hS.cs (s + j) (by omega)
      have e : (⟨w.heap.size, 1 + s, none⟩ : Addr).add j = ⟨w.heap.size, 1 + (s + j), none⟩ := by unfold Addr.add; split <;> simp_all [Nat.add_assoc]
      rw [e, h2, ← hv]; simp [List.getD, show s + j < p.length by omega]) (by simp [natC_size, zP_len, hp]; omega) (ints_one _)
    have hml : (((p.drop s).take u).map (Value.int .i64)).length = u := by rw [List.length_map, List.length_take, List.length_drop, hp]; omega
    have hup := up_cells u 0 u (p.drop s) (by omega)
    simp only [Nat.add_zero] at hup
    rw [hml, hup] at hcp
    have D3 : NatAt (w2.drew.setRow w0.heap.size (natC u (upP 0 u (p.drop s)))) w0.heap.size u (upP 0 u (p.drop s)) := setRow_heap w2.drew w0.heap.size _ _ _ _ D2
    have hg3 : w2.grownBy (w2.drew.setRow w0.heap.size (natC u (upP 0 u (p.drop s)))) (some w0.heap.size) := ⟨rfl, rfl, rfl, by simp, fun k _ hne => setRow_other w2.drew w0.heap.size k _ (by intro e; exact hne (by rw [e]))⟩
    have hs3 : (w2.drew.setRow w0.heap.size (natC u (upP 0 u (p.drop s)))).heap.size = w0.heap.size + 1 + 1 := by simp [hs2']
    generalize w2.drew.setRow w0.heap.size (natC u (upP 0 u (p.drop s))) = w3 at hcp D3 hg3 hs3
    have A3 := A2.grown hg3 (by first | (simp; done) | (simp; omega))
    have B3 := B2.grown hg3 (by first | (simp; done) | (simp; omega))
    have C3 := C2.grown hg3 (by first | (simp; done) | (simp; omega))
    have E3 := hN2.grown hg3 (by first | (simp; done) | (simp; omega))
    have hB3 : Below w.heap.size w w3 := hB2.grown hg3 (by omega) (by intro k hk; cases hk; omega)
    refine BL.held_ready 7 (some 32) (by kernel_rfl) rfl rfl rfl _ w3 (run_copy1 (.tmp 26) (.tmp 31) 37 rfl _ _ _ rfl rfl hcp) A3 ?_
    simp only [Act.put, List.setIfInBounds_toArray, List.set_cons_zero, List.set_cons_succ]
    refine wpAnyH_done (by kernel_rfl) ?_ _
    refine NoPanic.normal ?_
    clear hS hcp A2 B2 C2 D2 hN2 hg3 hB2 hs2' hup hml
    go_wp2_with fail
    refine held_begin (fun w' => NatAt w' w.heap.size k p) (by kernel_rfl) ?_
    have hS : NatAt w3.drew w.heap.size k p := A3
    refine held_val 0 (some 33) rfl rfl (by kernel_rfl) (by kernel_rfl) (by kernel_rfl) noPanic_put rfl (.pointer (some ⟨w0.heap.size + 1, 1, none⟩)) (fun _ => by go_simp) hS ?_
    simp only [Act.put, List.setIfInBounds_toArray, List.set_cons_zero, List.set_cons_succ]
    refine held_val 1 (some 34) rfl rfl (by kernel_rfl) (by kernel_rfl) (by kernel_rfl) noPanic_put rfl (.slice (some ⟨w0.heap.size + 1, 1, none⟩) 204 204) (fun _ => by go_simp) hS ?_
    simp only [Act.put, List.setIfInBounds_toArray, List.set_cons_zero, List.set_cons_succ]
    refine held_val 2 (some 35) rfl rfl (by kernel_rfl) (by kernel_rfl) (by kernel_rfl) noPanic_put rfl (.pointer (some ⟨w.heap.size, 1, none⟩)) (fun _ => by go_simp) hS ?_
    simp only [Act.put, List.setIfInBounds_toArray, List.set_cons_zero, List.set_cons_succ]
    refine held_val 3 (some 36) rfl rfl (by kernel_rfl) (by kernel_rfl) (by kernel_rfl) noPanic_put rfl (.int .i64 (s : Int)) (fun _ => by go_simp) hS ?_
    simp only [Act.put, List.setIfInBounds_toArray, List.set_cons_zero, List.set_cons_succ]
    refine held_val 4 (some 37) rfl rfl (by kernel_rfl) (by kernel_rfl) (by kernel_rfl) noPanic_put rfl (.slice (some ⟨w.heap.size, 1, none⟩) s 204) (fun _ => by go_simp) hS ?_
    simp only [Act.put, List.setIfInBounds_toArray, List.set_cons_zero, List.set_cons_succ]
    have hcp := run_copy_row Tryd.prog w3.drew 37 37 3 3 (w0.heap.size + 1) 1 204 204 ⟨w.heap.size, 1, none⟩ s 204 (natC ((s + 1 : Nat) : Int) zP) 41 ((p.take s).map (Value.int .i64)) Tryd.underlying37 ints_info E3 (by rw [List.length_map, List.length_take, hp]) (fun j v hv => by
      rw [List.getElem?_map] at hv
      have hj : j < s := by
        rcases Nat.lt_or_ge j s with h | h
        · exact h
        · rw [List.getElem?_eq_none (by simp; omega)] at hv; cases hv
      rw [List.getElem?_take_of_lt hj, List.getElem?_eq_getElem (by omega)] at hv
      have h2 := hS.cs (j) (by omega)
      have e : (⟨w.heap.size, 1, none⟩ : Addr).add j = ⟨w.heap.size, 1 + (j), none⟩ := by unfold Addr.add; split <;> simp_all
      rw [e, h2, ← hv]; simp [List.getD, show j < p.length by omega]) (by simp [natC_size, zP_len, hp]; omega) (ints_one _)
    have hml : ((p.take s).map (Value.int .i64)).length = s := by rw [List.length_map, List.length_take, hp]; omega
    have hup := up_cells ((s + 1 : Nat) : Int) 0 s p (by omega)
    simp only [Nat.add_zero] at hup
    rw [hml, hup] at hcp
    have hul : (upP 0 s p).length = 204 := upP_len (by omega) hp
    have E4 : NatAt (w3.drew.setRow (w0.heap.size + 1) (natC ((s + 1 : Nat) : Int) (upP 0 s p))) (w0.heap.size + 1) ((s + 1 : Nat) : Int) (upP 0 s p) := setRow_heap w3.drew (w0.heap.size + 1) _ _ _ _ E3
    have hg4 : w3.grownBy (w3.drew.setRow (w0.heap.size + 1) (natC ((s + 1 : Nat) : Int) (upP 0 s p))) (some (w0.heap.size + 1)) := ⟨rfl, rfl, rfl, by simp, fun k _ hne => setRow_other w3.drew (w0.heap.size + 1) k _ (by intro e; exact hne (by rw [e]))⟩
    have hs4 : (w3.drew.setRow (w0.heap.size + 1) (natC ((s + 1 : Nat) : Int) (upP 0 s p))).heap.size = w0.heap.size + 1 + 1 := by simp [hs3]
    generalize w3.drew.setRow (w0.heap.size + 1) (natC ((s + 1 : Nat) : Int) (upP 0 s p)) = w4 at hcp E4 hg4 hs4
    have A4 := A3.grown hg4 (by first | (simp; done) | (simp; omega))
    have B4 := B3.grown hg4 (by first | (simp; done) | (simp; omega))
    have C4 := C3.grown hg4 (by first | (simp; done) | (simp; omega))
    have D4 := D3.grown hg4 (by first | (simp; done) | (simp; omega))
    have hB4 : Below w.heap.size w w4 := hB3.grown hg4 (by omega) (by intro k hk; cases hk; omega)
    refine BL.held_ready 5 (some 38) (by kernel_rfl) rfl rfl rfl _ w4 (run_copy1 (.tmp 34) (.tmp 37) 37 rfl _ _ _ rfl rfl hcp) A4 ?_
    simp only [Act.put, List.setIfInBounds_toArray, List.set_cons_zero, List.set_cons_succ]
    refine wpAnyH_done (by kernel_rfl) ?_ _
    refine NoPanic.normal ?_
    clear hS hcp A3 B3 C3 D3 E3 hg4 hB3 hs3 hup hml A4
    obtain ⟨U, hU⟩ : ∃ U, U = upP 0 u (p.drop s) := ⟨_, rfl⟩
    obtain ⟨L, hL⟩ : ∃ L, L = upP 0 s p := ⟨_, rfl⟩
    rw [← hU] at D4 HRH
    rw [← hL] at E4 hul
    have HL2 := hide hL
    have hUl : U.length = 204 := HRH.out.len
    clear hU hL
    go_wp2_with fail
    refine many_beginN [(9, fun w' => NatAt w' w0.heap.size u U)] (fun _ => True) (by kernel_rfl) ?_
    refine BL.many_val 0 (some 40) rfl rfl (by kernel_rfl) (by kernel_rfl) (by kernel_rfl) [] (by kernel_rfl) (not9 0 (by decide)) noPanic_put rfl (.int .i64 (s : Int)) (fun _ _ => by go_simp) (late9 (.inr D4)) ?_
    simp only [Act.put, List.setIfInBounds_toArray, List.set_cons_zero, List.set_cons_succ]
    refine BL.many_val 1 (some 41) rfl rfl (by kernel_rfl) (by kernel_rfl) (by kernel_rfl) [5, 6, 7, 9] (by kernel_rfl) (not9 1 (by decide)) noPanic_put rfl (.agg (natC u U)) (fun _ h => run_nat0 (.tmp 7) rfl w0.heap.size rfl u U hUl (h.2 (9, fun w' => NatAt w' w0.heap.size u U) (List.mem_singleton.2 rfl) (show (9 : Nat) ∈ [5, 6, 7, 9] by decide))) (late9 (.inr D4)) ?_
    simp only [Act.put, List.setIfInBounds_toArray, List.set_cons_zero, List.set_cons_succ]
    refine BL.many_val 2 (some 42) rfl rfl (by kernel_rfl) (by kernel_rfl) (by kernel_rfl) [] (by kernel_rfl) (not9 2 (by decide)) noPanic_put rfl (.int .i64 (d : Int)) (fun _ _ => by go_simp) (late9 (.inr D4)) ?_
    simp only [Act.put, List.setIfInBounds_toArray, List.set_cons_zero, List.set_cons_succ]
    refine BL.many_val 3 (some 43) rfl rfl (by kernel_rfl) (by kernel_rfl) (by kernel_rfl) [] (by kernel_rfl) (not9 3 (by decide)) noPanic_put rfl (.int .i64 (m : Int)) (fun _ _ => by go_simp) (late9 (.inr D4)) ?_
    simp only [Act.put, List.setIfInBounds_toArray, List.set_cons_zero, List.set_cons_succ]
    refine BL.many_val 10 (some 48) rfl rfl (by kernel_rfl) (by kernel_rfl) (by kernel_rfl) [] (by kernel_rfl) (not9 10 (by decide)) noPanic_put rfl (.pointer (some ⟨w0.heap.size + 1, 1, none⟩)) (fun _ _ => by go_simp) (late9 (.inr D4)) ?_
    simp only [Act.put, List.setIfInBounds_toArray, List.set_cons_zero, List.set_cons_succ]
    refine many_callN 4 (some 44) (by kernel_rfl) rfl rfl rfl 31 #[.int .i64 (m : Int)] (by go_simp) _ (tenTo_any m _ hm6) ?_
    rintro e w5 ⟨⟨y, rfl, hy⟩, rfl⟩
    refine ⟨_, rfl, late9 (.inr D4), ?_⟩
    simp only [Act.put, List.setIfInBounds_toArray, List.set_cons_zero, List.set_cons_succ]
    have hy0 : 0 < y := by rw [hy]; exact Int.natCast_pos.2 (Nat.pow_pos (by decide))
    have hy1 : y ≤ 100000 := by
      have h1 : 10 ^ m ≤ 10 ^ 5 := Nat.pow_le_pow_right (by decide) hm6
      have e5 : (10 : Nat) ^ 5 = 100000 := by decide
      omega
    refine many_callN 5 (some 45) (by kernel_rfl) rfl rfl rfl 30 #[.agg (natC u U), .int .i64 y] (by go_simp) _ (divideSmall_any (10 ^ m) y _ HRH.out hu204 hy hy0 (by omega)) ?_
    rintro e w5 ⟨i, r, x, rfl, hx, hR, hW5⟩
    have hrl := hR.len
    have HR := hide hR
    have HX := hide hx
    have hs5 : w0.heap.size + 1 + 1 ≤ w5.heap.size := by have := hW5.size; have h : w4.drew.heap.size = w4.heap.size := rfl; omega
    have B5 : NatAt w5 (w.heap.size + 1) 0 zP := NatAt.below (w := w4.drew) B4 hW5 (by show _ < w4.heap.size; omega)
    have C5 : NatAt w5 (w.heap.size + 1 + 1) 0 zP := NatAt.below (w := w4.drew) C4 hW5 (by show _ < w4.heap.size; omega)
    have D5 : NatAt w5 w0.heap.size u U := NatAt.below (w := w4.drew) D4 hW5 (by show _ < w4.heap.size; omega)
    have E5 : NatAt w5 (w0.heap.size + 1) ((s + 1 : Nat) : Int) L := NatAt.below (w := w4.drew) E4 hW5 (by show _ < w4.heap.size; omega)
    have hB5 : Below w.heap.size w w5 := hB4.drew.trans (hW5.mono (by show _ ≤ w4.heap.size; omega))
    refine ⟨_, rfl, late9 (.inr D5), ?_⟩
    clear hy hy0 hy1 B4 C4 E4 hB4 hx hR
    simp only [Act.put, List.setIfInBounds_toArray, List.set_cons_zero, List.set_cons_succ]
    refine BL.many_val 6 (some 39) rfl rfl (by kernel_rfl) (by kernel_rfl) (by kernel_rfl) [] (by kernel_rfl) (not9 6 (by decide)) noPanic_put rfl (.tuple #[.agg (natC i r), .int .i64 x]) (fun _ _ => by go_simp) (late9 (.inr D5)) ?_
    simp only [Act.put, List.setIfInBounds_toArray, List.set_cons_zero, List.set_cons_succ]
    refine BL.many_val 7 (some 46) rfl rfl (by kernel_rfl) (by kernel_rfl) (by kernel_rfl) [] (by kernel_rfl) (not9 7 (by decide)) noPanic_put rfl (.agg (natC i r)) (fun _ _ => by go_simp) (late9 (.inr D5)) ?_
    simp only [Act.put, List.setIfInBounds_toArray, List.set_cons_zero, List.set_cons_succ]
    refine BL.many_val 8 (some 47) rfl rfl (by kernel_rfl) (by kernel_rfl) (by kernel_rfl) [] (by kernel_rfl) (not9 8 (by decide)) noPanic_put rfl (.int .i64 x) (fun _ _ => by go_simp) (late9 (.inr D5)) ?_
    simp only [Act.put, List.setIfInBounds_toArray, List.set_cons_zero, List.set_cons_succ]
    refine many_store_nat 9 (by kernel_rfl) rfl rfl (.tmp 7) (.tmp 46) rfl rfl w0.heap.size i r rfl rfl u U D5 hUl hrl ?_
    intro w6 D6 hg6 hs6
    refine ⟨late9 (.inl rfl), ?_⟩
    have B6 := B5.grown hg6 (by first | (simp; done) | (simp; omega))
    have C6 := C5.grown hg6 (by first | (simp; done) | (simp; omega))
    have E6 := E5.grown hg6 (by first | (simp; done) | (simp; omega))
    have hB6 : Below w.heap.size w w6 := hB5.grown hg6 (by omega) (by intro k hk; cases hk; omega)
    refine BL.many_val 11 (some 49) rfl rfl (by kernel_rfl) (by kernel_rfl) (by kernel_rfl) [] (by kernel_rfl) (not9 11 (by decide)) noPanic_put rfl (.pointer (some ⟨w0.heap.size + 1, 1 + s, none⟩)) (fun _ _ => by go_simp; omega) (late9 (.inl rfl)) ?_
    simp only [Act.put, List.setIfInBounds_toArray, List.set_cons_zero, List.set_cons_succ]
    refine BL.many_one 12 (by kernel_rfl) rfl rfl fun K hK => ?_
    refine BL.store_at_wp 3 (.tmp 49) (.tmp 47) rfl rfl (w0.heap.size + 1) (1 + s) (.int .i64 x) rfl rfl ints_info rfl _ _ E6 (by rw [natC_size, hul]; omega) ?_
    intro w7 E7 hg7 hs7
    rw [natC_setS] at E7
    have E7' : NatAt w7 (w0.heap.size + 1) ((s + 1 : Nat) : Int) (L.set s x) := E7
    have hl7 : (L.set s x).length = 204 := by rw [List.length_set]; exact hul
    have B7 := B6.grown hg7 (by first | (simp; done) | (simp; omega))
    have C7 := C6.grown hg7 (by first | (simp; done) | (simp; omega))
    have D7 := D6.grown hg7 (by first | (simp; done) | (simp; omega))
    have hB7 : Below w.heap.size w w7 := hB6.grown hg7 (by omega) (by intro k hk; cases hk; omega)
    refine hK.out _ _ (late9 (.inl rfl)) ?_
    refine BL.many_done (by kernel_rfl) ?_ _
    refine NoPanic.normal ?_
    have hs7' : w0.heap.size + 1 + 1 ≤ w7.heap.size := by omega
    have HLo : Hid (Rep (n % 10 ^ (6 * s + m)) (trimTo (L.set s x) (s + 1)) (L.set s x)) := by
      unfold Hid
      rw [HL2.out]
      exact HP.out.low hsk hm6 x HX.out
    have HHi : Hid (Rep (n / 10 ^ (6 * s + m)) i r) := by
      unfold Hid
      rw [Nat.pow_add, ← Nat.div_div_eq_div_mul]
      exact HR.out
    clear B5 C5 D5 E5 hB5 B6 C6 D6 E6 hB6 hg6 hs6 hg7 hs7 hK E7 hW5
    obtain ⟨P2, hP2⟩ : ∃ P2, P2 = L.set s x := ⟨_, rfl⟩
    rw [← hP2] at E7' hl7 HLo
    have hsz0 : w.heap.size + 1 + 1 < w0.heap.size := by omega
    clear hP2 hws
    go_wp2_with fail
    refine (trim_any (w0.heap.size + 1) (s + 1) P2 _ hl7 (by omega) E7').mono ?_
    rintro e w8 ⟨rfl, E8, hg8, hs8⟩
    have B8 := B7.grown hg8 (by first | (simp; done) | (simp; omega))
    have C8 := C7.grown hg8 (by first | (simp; done) | (simp; omega))
    have D8 := D7.grown hg8 (by first | (simp; done) | (simp; omega))
    have hB8 : Below w.heap.size w w8 := hB7.grown hg8 (by omega) (by intro k hk; cases hk; omega)
    clear B7 C7 D7 hB7 E7' hg8
    obtain ⟨t, ht⟩ : ∃ t, t = trimTo P2 (s + 1) := ⟨_, rfl⟩
    rw [← ht] at E8 HLo
    clear ht
    go_wp2_with fail
    refine held_begin (fun w' => NatAt w' w0.heap.size i r ∧ NatAt w' (w0.heap.size + 1) t P2) (by kernel_rfl) ?_
    have hS : NatAt w8.drew w0.heap.size i r ∧ NatAt w8.drew (w0.heap.size + 1) t P2 := ⟨D8, E8⟩
    refine held_load 0 (some 51) rfl rfl (by kernel_rfl) (by kernel_rfl) (by kernel_rfl) noPanic_put rfl _ rfl w0.heap.size rfl i r (fun _ h => h.1) hrl hS ?_
    simp only [Act.put, List.setIfInBounds_toArray, List.set_cons_zero, List.set_cons_succ]
    refine held_load 1 (some 52) rfl rfl (by kernel_rfl) (by kernel_rfl) (by kernel_rfl) noPanic_put rfl _ rfl (w0.heap.size + 1) rfl t P2 (fun _ h => h.2) hl7 hS ?_
    simp only [Act.put, List.setIfInBounds_toArray, List.set_cons_zero, List.set_cons_succ]
    refine held_store 2 (by kernel_rfl) rfl rfl _ _ rfl rfl (w.heap.size + 1) i r rfl rfl 0 zP B8 zP_len hrl ?_
    intro w9 hN9 hg9 hs9
    have hs9' : w9.heap.size = w8.heap.size := hs9
    have hS9 : NatAt w9 w0.heap.size i r ∧ NatAt w9 (w0.heap.size + 1) t P2 := ⟨D8.grown (w := w8.drew) hg9 (by first | (simp; done) | (simp; omega)), E8.grown (w := w8.drew) hg9 (by first | (simp; done) | (simp; omega))⟩
    refine ⟨hS9, ?_⟩
    refine held_store 3 (by kernel_rfl) rfl rfl _ _ rfl rfl (w.heap.size + 1 + 1) t P2 rfl rfl 0 zP (C8.grown (w := w8.drew) hg9 (by first | (simp; done) | (simp; omega))) zP_len hl7 ?_
    intro w10 hN10 hg10 hs10
    refine ⟨⟨hS9.1.grown hg10 (by first | (simp; done) | (simp; omega)), hS9.2.grown hg10 (by first | (simp; done) | (simp; omega))⟩, ?_⟩
    refine wpAnyH_done (by kernel_rfl) ?_ _
    refine NoPanic.normal ?_
    go_wp2
    refine bodyPost_ret (v := .tuple #[.agg (natC i r), .agg (natC t P2)]) (res_nat2 Tryd.results16 _ _ (w.heap.size + 1) (w.heap.size + 1 + 1) _ _ _ _ rfl rfl (hN9.grown hg10 (by first | (simp; done) | (simp; omega))) hN10 hrl hl7) rfl ⟨i, r, t, P2, rfl, ?_, ?_, ?_⟩
    · rw [HD.out]; exact HHi.out
    · rw [HD.out]; exact HLo.out
    · have hB9 : Below w.heap.size w w9 := hB8.drew.grown hg9 (by show _ ≤ w8.heap.size; omega) (by intro k hk; cases hk; omega)
      exact hB9.grown hg10 (by omega) (by intro k hk; cases hk; omega)
end Go.Proofs.YtfdlncaplalenaaDoor
