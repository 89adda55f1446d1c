/-
  The texts Held, HeldCall, Reads, Late, ImplCmp, one behind the other.
-/
import Derived.Test.YtmfpnbmfcoahbaaDoorBaseHeld
import Derived.Test.YtmfpnbmfcoahbaaDoorPkRead
import Derived.Deep.RegionHeld3
import Derived.RegionTactic
import Derived.Test.YtmfpnbmfcoahbaaDoorPkLehmer
import Derived.Test.YtmfpnbmfcoahbaaDoorPkGood

/-
  Regions that draw their order and read or write whole nats: the moves of their walks.
-/
namespace Go.Proofs.YtmfpnbmfcoahbaaDoor
open Go.RowKit
set_option linter.unusedVariables false

section
variable {ops : Array Oper} {Q : Exit → Act → World → Prop} {md : Region.Mode} {S : World → Prop} {i : Nat} {o : Oper} {fuel : Nat} {listed : Array Bool} {a : Act} {w : World}

/-- A nat is read whole, ahead of all else. -/
theorem held_load (i : Nat) (d : Option Tmp) (hi : ops[i]? = some o) (hd : o.dst = d) (hs : Region.noSelect ops = true) (hf : Region.free md ops listed i = true) (hr : (Region.ready md ops listed).contains i = true)
    (hQ : ∀ c a d v w, Q (.panic c) (Act.put a d v) w → Q (.panic c) a w) (hw : Region.wanted o (yielded ops a.tmps) = true) (x : Operand) (ho : o.op = .load 46 x)
    (b : Nat) (hx : a.eval x = .pointer (some ⟨b, 0, none⟩)) (u : Int) (p : List Int) (hN : ∀ w, S w → NatAt w b u p) (hl : p.length = 204) (hS : S w)
    (h : wpAnyH Tryd.prog md ops Q S fuel (listed.setIfInBounds i true) (a.put d (.agg (natC u p))) w) : wpAnyH Tryd.prog md ops Q S (fuel + 1) listed a w := by
  subst hd
  exact   wpAnyH_take hi hs hf hr (fun c a w => hQ c a _ _ w) (.inl ⟨hw, fun w hw' => by
    unfold execOp
    simp only [ho, hx, Instr.loadAt, Instr.sureAddr, Sem.run_bind, Sem.run_pure, Result.andThen_ok, run_loadVar_row w b 46 46 (natC u p) (0, 0) _ (hN w hw') Tryd.underlying46 rfl (nat_info u p hl)]⟩) hS h

/-- The one operation that may come up: a nat is written whole. -/
theorem held_store (i : Nat) (hr : Region.ready md ops listed = [i]) (hi : ops[i]? = some o) (hw : Region.wanted o (yielded ops a.tmps) = true) (x y : Operand) (ho : o.op = .store 46 x y) (hd : o.dst = none)
    (b : Nat) (u : Int) (p : List Int) (hx : a.eval x = .pointer (some ⟨b, 0, none⟩)) (hy : a.eval y = .agg (natC u p)) (u0 : Int) (p0 : List Int) (hN : NatAt w b u0 p0) (h0 : p0.length = 204) (hl : p.length = 204)
    (h : ∀ w', NatAt w' b u p → w.grownBy w' (some b) → w'.heap.size = w.heap.size → S w' ∧ wpAnyH Tryd.prog md ops Q S fuel (listed.setIfInBounds i true) a w') : wpAnyH Tryd.prog md ops Q S (fuel + 1) listed a w := by
  refine wpAnyH_ready hr (by simp) (AllReadyH.cons hi (fun K hK => ?_) AllReadyH.nil)
  rw [if_pos hw]
  refine wp_store_row 46 x y ho b (natC u p) hx hy 46 (natC u0 p0) hN (nat_info u p hl) (by rw [natC_size, natC_size, h0, hl]) (natC_one _ _) ?_
  rw [hd]
  have := h _ (setRow_heap w b _ _ _ _ hN) ⟨rfl, rfl, rfl, by simp, fun k _ hne => setRow_other w b k _ (by intro e; exact hne (by rw [e]))⟩ (by simp)
  exact hK.out _ _ this.1 (fun _ => this.2)

end

end Go.Proofs.YtmfpnbmfcoahbaaDoor

/-
  A drawn region whose next operation is a call.
-/
namespace Go.Proofs.YtmfpnbmfcoahbaaDoor
open Go.RowKit
set_option linter.unusedVariables false

/-- The one operation that may come up: a nat is read whole. -/
theorem held_load1 {ops : Array Oper} {Q : Exit → Act → World → Prop} {md : Region.Mode} {S : World → Prop} {o : Oper} {fuel : Nat} {listed : Array Bool} {a : Act} {w : World} (i : Nat) (d : Option Tmp) (hr : Region.ready md ops listed = [i]) (hi : ops[i]? = some o) (hw : Region.wanted o (yielded ops a.tmps) = true) (hd : o.dst = d) (x : Operand) (ho : o.op = .load 46 x)
    (b : Nat) (hx : a.eval x = .pointer (some ⟨b, 0, none⟩)) (u : Int) (p : List Int) (hN : NatAt w b u p) (hl : p.length = 204) (hS : S w)
    (h : wpAnyH Tryd.prog md ops Q S fuel (listed.setIfInBounds i true) (a.put d (.agg (natC u p))) w) : wpAnyH Tryd.prog md ops Q S (fuel + 1) listed a w := by
  subst hd
  refine wpAnyH_ready hr (by simp) (AllReadyH.cons hi (fun K hK => ?_) AllReadyH.nil)
  rw [if_pos hw]
  unfold Oper.wp
  have e : (execOp a.eval o).run Tryd.prog w = .ok (.value (.agg (natC u p))) w := by
    unfold execOp
    simp only [ho, hx, Instr.loadAt, Instr.sureAddr, Sem.run_bind, Sem.run_pure, Result.andThen_ok, run_loadVar_row w b 46 46 (natC u p) (0, 0) _ hN Tryd.underlying46 rfl (nat_info u p hl)]
  rw [e]
  exact hK.out _ _ hS (fun _ => h)

theorem res_nat2 {fn : Func} {x y : Tmp} (h : fn.results = #[.cell x 46, .cell y 46]) (tmps : Array Value) (w : World) (b c : Nat) (n m : Int) (p q : List Int)
    (hx : tmps.getD x undef = .pointer (some ⟨b, 0, none⟩)) (hy : tmps.getD y undef = .pointer (some ⟨c, 0, none⟩)) (hN : NatAt w b n p) (hM : NatAt w c m q) (hl : p.length = 204) (hm : q.length = 204) :
    (results fn tmps).run Tryd.prog w = .ok (.tuple #[.agg (natC n p), .agg (natC m q)]) w := by
  have e1 := run_loadVar_row w b 46 46 (natC n p) (0, 0) _ hN Tryd.underlying46 rfl (nat_info n p hl)
  have e2 := run_loadVar_row w c 46 46 (natC m q) (0, 0) _ hM Tryd.underlying46 rfl (nat_info m q hm)
  have hx' : tmps[x]?.getD undef = .pointer (some ⟨b, 0, none⟩) := by simpa using hx
  have hy' : tmps[y]?.getD undef = .pointer (some ⟨c, 0, none⟩) := by simpa using hy
  simp [results, h, hx', hy', asAddr, e1, e2]
end Go.Proofs.YtmfpnbmfcoahbaaDoor

/-
  What impl.readNats answers: two texts as parts.
-/
namespace Go.Proofs.YtmfpnbmfcoahbaaDoor
open Go.RowKit
set_option linter.unusedVariables false

theorem res_nat2_tmp {fn : Func} {x y u : Tmp} (h : fn.results = #[.cell x 46, .cell y 46, .tmp u]) (tmps : Array Value) (w : World) (b c : Nat) (n m : Int) (p q : List Int) (v : Value)
    (hx : tmps.getD x undef = .pointer (some ⟨b, 0, none⟩)) (hy : tmps.getD y undef = .pointer (some ⟨c, 0, none⟩)) (hv : tmps.getD u undef = v) (hN : NatAt w b n p) (hM : NatAt w c m q) (hl : p.length = 204) (hm : q.length = 204) :
    (results fn tmps).run Tryd.prog w = .ok (.tuple #[.agg (natC n p), .agg (natC m q), v]) w := by
  have e1 := run_loadVar_row w b 46 46 (natC n p) (0, 0) _ hN Tryd.underlying46 rfl (nat_info n p hl)
  have e2 := run_loadVar_row w c 46 46 (natC m q) (0, 0) _ hM Tryd.underlying46 rfl (nat_info m q hm)
  have hx' : tmps[x]?.getD undef = .pointer (some ⟨b, 0, none⟩) := by simpa using hx
  have hy' : tmps[y]?.getD undef = .pointer (some ⟨c, 0, none⟩) := by simpa using hy
  have hv' : tmps[u]?.getD undef = v := by simpa using hv
  simp [results, h, hx', hy', hv', asAddr, e1, e2]

set_option maxHeartbeats 1000000 in
set_option maxRecDepth 100000 in
theorem readNats_any (a b : ByteArray) (w : World) (hsa : a.size ≤ maxLen) (hsb : b.size ≤ maxLen) :
    Calls Tryd.prog 29 #[.string a, .string b] w fun e w' => ∃ (k m : Nat) (p q : List Int) (oa ob : Bool), e = .returned (.tuple #[.agg (natC k p), .agg (natC m q), .bool (oa && ob)]) ∧ Read a k p oa ∧ Read b m q ob ∧ Below w.heap.size w w' := by
  have hz := zero_nat.1
  have A := (NatAt.new w 0 zP).old (.cells (natC 0 zP) 46)
  have B := NatAt.new (w.alloc (.cells (natC 0 zP) 46)) 0 zP
  have hB : Below w.heap.size w ((w.alloc (.cells (natC 0 zP) 46)).alloc (.cells (natC 0 zP) 46)) := ((Below.refl _ _).alloc (Nat.le_refl _) _).alloc (by simp) _
  simp only [World.size_alloc] at B
  go_enter Tryd.func29, Tryd.ntmps29
  go_wp2_with fail
  refine (readNat_any a _ hsa).mono ?_
  rintro e w1 ⟨k, p, oa, rfl, hRa, hW1⟩
  have A1 := A.below hW1 (by simp; omega)
  have B1 := B.below hW1 (by simp)
  have hB1 : Below w.heap.size w w1 := hB.trans (hW1.mono (by simp; omega))
  have hs1 := hW1.size
  simp only [World.size_alloc] at hs1
  clear A B hB hW1
  have hp := hRa.len
  have C1 := NatAt.new w1 0 zP
  go_wp2_with (refine store_nat rfl _ _ rfl rfl w1.heap.size k p rfl rfl 0 zP C1 zP_len hp ?_; intro w2 hN2 hg2 hs2)
  refine (readNat_any b _ hsb).mono ?_
  rintro e w3 ⟨m, q, ob, rfl, hRb, hW3⟩
  have hs3 := hW3.size
  have hlt2 := hN2.lt
  have A3 := ((A1.old (.cells (natC 0 zP) 46)).grown hg2 (by simp; omega)).below hW3 (by rw [hs2]; simp; omega)
  have B3 := ((B1.old (.cells (natC 0 zP) 46)).grown hg2 (by simp; omega)).below hW3 (by rw [hs2]; simp; omega)
  have C3 := hN2.below hW3 hlt2
  have hB3 : Below w.heap.size w w3 := ((hB1.alloc (by omega) _).grown hg2 (by simp; omega) (by intro k hk; cases hk; omega)).trans (hW3.mono (by rw [hs2]; simp; omega))
  have hq := hRb.len
  rw [hs2] at hs3
  simp only [World.size_alloc] at hs3
  clear A1 B1 C1 hB1 hN2 hg2 hs2 hW3 hlt2
  have D3 := NatAt.new w3 0 zP
  go_wp2_with (refine store_nat rfl _ _ rfl rfl w3.heap.size m q rfl rfl 0 zP D3 zP_len hq ?_; intro w4 hN4 hg4 hs4)
  have hs4' : w4.heap.size = w3.heap.size + 1 := by rw [hs4]; simp
  have A4 := (A3.old (.cells (natC 0 zP) 46)).grown hg4 (by simp; omega)
  have B4 := (B3.old (.cells (natC 0 zP) 46)).grown hg4 (by simp; omega)
  have C4 := (C3.old (.cells (natC 0 zP) 46)).grown hg4 (by simp; omega)
  have hB4 : Below w.heap.size w w4 := (hB3.alloc (by omega) _).grown hg4 (by simp; omega) (by intro k hk; cases hk; omega)
  clear A3 B3 C3 D3 hB3 hg4 hs4
  clear hz
  cases oa with
  | true =>
    refine held_begin (fun w' => NatAt w' w1.heap.size k p ∧ NatAt w' w3.heap.size m q) (by kernel_rfl) ?_
    have hS : NatAt w4.drew w1.heap.size k p ∧ NatAt w4.drew w3.heap.size m q := ⟨C4, hN4⟩
    refine held_load 0 (some 21) rfl rfl (by kernel_rfl) (by kernel_rfl) (by kernel_rfl) noPanic_put rfl _ rfl w1.heap.size rfl k p (fun _ h => h.1) hp hS ?_
    simp only [Act.put, List.setIfInBounds_toArray, List.set_cons_zero, List.set_cons_succ]
    refine held_load 1 (some 22) rfl rfl (by kernel_rfl) (by kernel_rfl) (by kernel_rfl) noPanic_put rfl _ rfl w3.heap.size rfl m q (fun _ h => h.2) hq hS ?_
    simp only [Act.put, List.setIfInBounds_toArray, List.set_cons_zero, List.set_cons_succ]
    refine held_val 2 (some 23) rfl rfl (by kernel_rfl) (by kernel_rfl) (by kernel_rfl) noPanic_put rfl (.bool true) (fun _ => rfl) hS ?_
    simp only [Act.put, List.setIfInBounds_toArray, List.set_cons_zero, List.set_cons_succ]
    refine held_val 3 (some 24) rfl rfl (by kernel_rfl) (by kernel_rfl) (by kernel_rfl) noPanic_put rfl (.bool true) (fun _ => rfl) hS ?_
    simp only [Act.put, List.setIfInBounds_toArray, List.set_cons_zero, List.set_cons_succ]
    refine held_val 4 (some 25) rfl rfl (by kernel_rfl) (by kernel_rfl) (by kernel_rfl) noPanic_put rfl (.bool ob) (fun _ => rfl) hS ?_
    simp only [Act.put, List.setIfInBounds_toArray, List.set_cons_zero, List.set_cons_succ]
    refine held_val 5 (some 26) rfl rfl (by kernel_rfl) (by kernel_rfl) (by kernel_rfl) noPanic_put rfl (.bool ob) (fun _ => rfl) hS ?_
    simp only [Act.put, List.setIfInBounds_toArray, List.set_cons_zero, List.set_cons_succ]
    refine held_store 6 (by kernel_rfl) rfl rfl _ _ rfl rfl w.heap.size k p rfl rfl 0 zP A4 zP_len hp ?_
    intro w5 hN5 hg5 hs5
    refine ⟨⟨C4.grown (w := w4.drew) hg5 (by simp; omega), hN4.grown (w := w4.drew) hg5 (by simp; omega)⟩, ?_⟩
    refine held_store 7 (by kernel_rfl) rfl rfl _ _ rfl rfl (w.heap.size + 1) m q rfl rfl 0 zP (B4.grown (w := w4.drew) hg5 (by simp)) zP_len hq ?_
    intro w6 hN6 hg6 hs6
    have hC5 := C4.grown (w := w4.drew) hg5 (by simp; omega)
    have hD5 := hN4.grown (w := w4.drew) hg5 (by simp; omega)
    refine ⟨⟨hC5.grown hg6 (by simp; omega), hD5.grown hg6 (by simp; omega)⟩, ?_⟩
    refine held_assign 8 (some 6) (by kernel_rfl) rfl rfl _ rfl rfl (.bool ob) rfl ⟨hC5.grown hg6 (by simp; omega), hD5.grown hg6 (by simp; omega)⟩ ?_
    simp only [Act.put, List.setIfInBounds_toArray, List.set_cons_zero, List.set_cons_succ]
    refine wpAnyH_done (by kernel_rfl) ?_ _
    refine NoPanic.normal ?_
    go_wp2
    refine bodyPost_ret (v := .tuple #[.agg (natC k p), .agg (natC m q), .bool (true && ob)]) (res_nat2_tmp Tryd.results29 _ _ w.heap.size (w.heap.size + 1) _ _ _ _ _ rfl rfl rfl (hN5.grown hg6 (by simp)) hN6 hp hq) rfl ⟨k, m, p, q, true, ob, rfl, hRa, hRb, ?_⟩
    have hB5 : Below w.heap.size w w5 := hB4.drew.grown hg5 (by have := hB4.size; simp; omega) (by intro k hk; cases hk; omega)
    exact hB5.grown hg6 (by have := hB5.size; omega) (by intro k hk; cases hk; omega)
  | false =>
    refine held_begin (fun w' => NatAt w' w1.heap.size k p ∧ NatAt w' w3.heap.size m q) (by kernel_rfl) ?_
    have hS : NatAt w4.drew w1.heap.size k p ∧ NatAt w4.drew w3.heap.size m q := ⟨C4, hN4⟩
    refine held_load 0 (some 21) rfl rfl (by kernel_rfl) (by kernel_rfl) (by kernel_rfl) noPanic_put rfl _ rfl w1.heap.size rfl k p (fun _ h => h.1) hp hS ?_
    simp only [Act.put, List.setIfInBounds_toArray, List.set_cons_zero, List.set_cons_succ]
    refine held_load 1 (some 22) rfl rfl (by kernel_rfl) (by kernel_rfl) (by kernel_rfl) noPanic_put rfl _ rfl w3.heap.size rfl m q (fun _ h => h.2) hq hS ?_
    simp only [Act.put, List.setIfInBounds_toArray, List.set_cons_zero, List.set_cons_succ]
    refine held_val 2 (some 23) rfl rfl (by kernel_rfl) (by kernel_rfl) (by kernel_rfl) noPanic_put rfl (.bool false) (fun _ => rfl) hS ?_
    simp only [Act.put, List.setIfInBounds_toArray, List.set_cons_zero, List.set_cons_succ]
    refine held_val 3 (some 24) rfl rfl (by kernel_rfl) (by kernel_rfl) (by kernel_rfl) noPanic_put rfl (.bool false) (fun _ => rfl) hS ?_
    simp only [Act.put, List.setIfInBounds_toArray, List.set_cons_zero, List.set_cons_succ]
    refine held_skip 4 (some 25) rfl rfl (by kernel_rfl) (by kernel_rfl) (by kernel_rfl) noPanic_put rfl hS ?_
    simp only [Act.put, List.setIfInBounds_toArray, List.set_cons_zero, List.set_cons_succ]
    refine held_val 5 (some 26) rfl rfl (by kernel_rfl) (by kernel_rfl) (by kernel_rfl) noPanic_put rfl (.bool false) (fun _ => rfl) hS ?_
    simp only [Act.put, List.setIfInBounds_toArray, List.set_cons_zero, List.set_cons_succ]
    refine held_store 6 (by kernel_rfl) rfl rfl _ _ rfl rfl w.heap.size k p rfl rfl 0 zP A4 zP_len hp ?_
    intro w5 hN5 hg5 hs5
    refine ⟨⟨C4.grown (w := w4.drew) hg5 (by simp; omega), hN4.grown (w := w4.drew) hg5 (by simp; omega)⟩, ?_⟩
    refine held_store 7 (by kernel_rfl) rfl rfl _ _ rfl rfl (w.heap.size + 1) m q rfl rfl 0 zP (B4.grown (w := w4.drew) hg5 (by simp)) zP_len hq ?_
    intro w6 hN6 hg6 hs6
    have hC5 := C4.grown (w := w4.drew) hg5 (by simp; omega)
    have hD5 := hN4.grown (w := w4.drew) hg5 (by simp; omega)
    refine ⟨⟨hC5.grown hg6 (by simp; omega), hD5.grown hg6 (by simp; omega)⟩, ?_⟩
    refine held_assign 8 (some 6) (by kernel_rfl) rfl rfl _ rfl rfl (.bool false) rfl ⟨hC5.grown hg6 (by simp; omega), hD5.grown hg6 (by simp; omega)⟩ ?_
    simp only [Act.put, List.setIfInBounds_toArray, List.set_cons_zero, List.set_cons_succ]
    refine wpAnyH_done (by kernel_rfl) ?_ _
    refine NoPanic.normal ?_
    go_wp2
    refine bodyPost_ret (v := .tuple #[.agg (natC k p), .agg (natC m q), .bool (false && ob)]) (res_nat2_tmp Tryd.results29 _ _ w.heap.size (w.heap.size + 1) _ _ _ _ _ rfl rfl rfl (hN5.grown hg6 (by simp)) hN6 hp hq) rfl ⟨k, m, p, q, false, ob, rfl, hRa, hRb, ?_⟩
    have hB5 : Below w.heap.size w w5 := hB4.drew.grown hg5 (by have := hB4.size; simp; omega) (by intro k hk; cases hk; omega)
    exact hB5.grown hg6 (by have := hB5.size; omega) (by intro k hk; cases hk; omega)
end Go.Proofs.YtmfpnbmfcoahbaaDoor

/-
  Drawn regions whose last operations (late) write what the others read: S holds till one of those came up.
-/
namespace Go.Proofs.YtmfpnbmfcoahbaaDoor
open Go.RowKit
set_option linter.unusedVariables false

section
variable {P : Program} {ops : Array Oper} {Q : Exit → Act → World → Prop} {md : Region.Mode} {late : List Nat} {S : World → Prop}

/-- One of the late ones came up, or S holds. -/
def LateOr (late : List Nat) (S : World → Prop) (listed : Array Bool) (w : World) : Prop := (∃ k ∈ late, listed.getD k false = true) ∨ S w

/-- Whatever order is picked, S holding behind every operation till a late one came up. -/
def wpAnyL (P : Program) (md : Region.Mode) (ops : Array Oper) (Q : Exit → Act → World → Prop) (late : List Nat) (S : World → Prop) : Nat → Array Bool → Act → World → Prop
  | 0, listed, a, w => Region.ready md ops listed = [] ∧ Q .normal a w
  | fuel + 1, listed, a, w =>
    (Region.ready md ops listed = [] → Q .normal a w) ∧
    ∀ i ∈ Region.ready md ops listed, wpOp P ops Q i (fun a' w' => LateOr late S (listed.setIfInBounds i true) w' ∧ wpAnyL P md ops Q late S fuel (listed.setIfInBounds i true) a' w') a w

theorem wpAny_of_late : ∀ (fuel : Nat) (listed : Array Bool) (a : Act) (w : World), wpAnyL P md ops Q late S fuel listed a w → wpAny P md ops Q fuel listed a w
  | 0, _, _, _, h => h
  | fuel + 1, _, _, _, h => ⟨h.1, fun i hi => wpOp_mono (fun a' w' h' => wpAny_of_late fuel _ a' w' h'.2) (h.2 i hi)⟩

theorem wpAnyL_first {i : Nat} {oi : Oper} {v : Value} (hi : ops[i]? = some oi) (hsel : ∀ (j : Nat) (o : Oper) cs b, ops[j]? = some o → o.op ≠ .select cs b)
    (hQ : ∀ c a w, Q (.panic c) (a.put oi.dst v) w → Q (.panic c) a w) (W : List Nat) (hLW : ∀ k ∈ late, k ∈ W) (hil : i ∉ W) (hwait : ∀ k ∈ W, ∀ ok, ops[k]? = some ok → ∃ e ∈ ok.after, Region.binds md e = true ∧ (e.on = i ∨ e.on ∈ W)) :
    ∀ (fuel : Nat) (listed : Array Bool) (a : Act) (w : World),
      (∀ j oj, ops[j]? = some oj → j ≠ i → listed.getD j true = false → (∀ e ∈ oj.after, Region.binds md e = true → e.on ≠ i) → oi.apart ops oj = true) →
      (∀ k ∈ W, listed.getD k false = false) → i ∈ Region.ready md ops listed → YieldsIf P ops S oi v a → S w →
      wpAnyL P md ops Q late S fuel (listed.setIfInBounds i true) (a.put oi.dst v) w → wpAnyL P md ops Q late S (fuel + 1) listed a w := by
  intro fuel
  induction fuel with
  | zero =>
    intro listed a w _ _ hr hy hS H
    refine ⟨fun h => (by rw [h] at hr; cases hr), fun j hj => ?_⟩
    by_cases hji : j = i
    · subst hji; exact hy.wpOp hi hS ⟨.inr hS, H⟩
    · have := ready_mono hj hji
      rw [H.1] at this
      cases this
  | succ fuel ih =>
    intro listed a w hfree hlate hr hy hS H
    refine ⟨fun h => (by rw [h] at hr; cases hr), fun j hj => ?_⟩
    by_cases hji : j = i
    · subst hji; exact hy.wpOp hi hS ⟨.inr hS, H⟩
    · have h1 := H.2 j (ready_mono hj hji)
      obtain ⟨hjun, oj, hoj, hall⟩ := mem_ready.1 hj
      have hnot : ∀ e ∈ oj.after, Region.binds md e = true → e.on ≠ i := fun e he hb heq => by
        have h1 := hall e he hb
        have h0 := (mem_ready.1 hr).1
        rw [heq] at h1
        rcases Nat.lt_or_ge i listed.size with h' | h'
        · simp [h'] at h0 h1; rw [h0] at h1; cases h1
        · simp [Array.getElem?_eq_none h'] at h1
      have hjl : j ∉ W := fun hj' => by
        obtain ⟨e, he, hb, heq⟩ := hwait j hj' oj hoj
        rcases heq with heq | heq
        · exact hnot e he hb heq
        · have := hall e he hb
          rw [hlate _ heq] at this
          cases this
      have h2 := wpOp_putIf hoj (hfree j oj hoj hji hjun hnot) (fun cs b => hsel i oi cs b hi) (fun cs b => hsel j oj cs b hoj) hQ hy h1
      have hfree' : ∀ k ok, ops[k]? = some ok → k ≠ i → (listed.setIfInBounds j true).getD k true = false →
          (∀ e ∈ ok.after, Region.binds md e = true → e.on ≠ i) → oi.apart ops ok = true := fun k ok hk hki hun hno => by
        refine hfree k ok hk hki ?_ hno
        by_cases hjk : j = k
        · subst hjk; exact hjun
        · rw [getD_set_ne true hjk] at hun; exact hun
      have hlate' : ∀ k ∈ W, (listed.setIfInBounds j true).getD k false = false := fun k hk => by
        rw [getD_set_ne false (fun e => hjl (by rw [e]; exact hk))]; exact hlate k hk
      refine wpOp_mono (fun a' w' h3 => ?_) h2
      have hS' : S w' := by
        rcases h3.2.1 with ⟨k, hk, h⟩ | h
        · rw [getD_set_ne false (fun e => hjl (by rw [e]; exact hLW k hk)), getD_set_ne false (fun e => hil (by rw [e]; exact hLW k hk)), hlate k (hLW k hk)] at h
          cases h
        · exact h
      refine ⟨.inr hS', ih (listed.setIfInBounds j true) a' w' hfree' hlate' (ready_mono hr (Ne.symm hji)) h3.1 hS' ?_⟩
      rw [Array.setIfInBounds_comm _ _ hji]
      exact h3.2.2

/-- All of W, and so the late ones, wait for number i. -/
def waitsAll (md : Region.Mode) (ops : Array Oper) (late W : List Nat) (listed : Array Bool) (i : Nat) : Bool :=
  (late.all fun k => W.contains k) && (!W.contains i && W.all fun k => !listed.getD k false && match ops[k]? with
    | some ok => ok.after.any fun e => Region.binds md e && (e.on == i || W.contains e.on)
    | none => true)

/-- Number i may be taken first. -/
theorem late_val {o : Oper} {fuel : Nat} {listed : Array Bool} {a : Act} {w : World} (i : Nat) (d : Option Tmp) (hi : ops[i]? = some o) (hd : o.dst = d) (hs : Region.noSelect ops = true) (hf : Region.free md ops listed i = true) (hr : (Region.ready md ops listed).contains i = true)
    (W : List Nat) (hl : waitsAll md ops late W listed i = true) (hQ : ∀ c a d v w, Q (.panic c) (Act.put a d v) w → Q (.panic c) a w) (hw : Region.wanted o (yielded ops a.tmps) = true) (v : Value) (hv : ∀ w, S w → (execOp a.eval o).run P w = .ok (.value v) w) (hS : S w)
    (h : wpAnyL P md ops Q late S fuel (listed.setIfInBounds i true) (a.put d v) w) : wpAnyL P md ops Q late S (fuel + 1) listed a w := by
  subst hd
  unfold waitsAll at hl
  simp only [Bool.and_eq_true, Bool.not_eq_true', List.all_eq_true] at hl
  obtain ⟨hl0, hl1, hl2⟩ := hl
  refine wpAnyL_first hi (Region.noSelect_spec hs) (fun c a w => hQ c a _ _ w) W (fun k hk => by simpa using hl0 k hk) (fun h => by simp [h] at hl1) (fun k hk ok hok => ?_) fuel listed a w (Region.free_spec hi hf) (fun k hk => (hl2 k hk).1) (by simpa using hr) (.inl ⟨hw, hv⟩) hS h
  have h2 := (hl2 k hk).2
  rw [hok] at h2
  simp only [Array.any_eq_true', Bool.and_eq_true, Bool.or_eq_true, beq_iff_eq, List.contains_iff_mem] at h2
  exact h2

/-- The one operation that may come up. -/
theorem late_one {o : Oper} {fuel : Nat} {listed : Array Bool} {a : Act} {w : World} (i : Nat) (hr : Region.ready md ops listed = [i]) (hi : ops[i]? = some o) (hw : Region.wanted o (yielded ops a.tmps) = true)
    (h : ∀ K' : Act → World → Prop, Hid (∀ a w, LateOr late S (listed.setIfInBounds i true) w → wpAnyL P md ops Q late S fuel (listed.setIfInBounds i true) a w → K' a w) → Oper.wp P o a w K' Q) : wpAnyL P md ops Q late S (fuel + 1) listed a w := by
  refine ⟨fun h0 => (by rw [hr] at h0; cases h0), fun j hj => ?_⟩
  rw [hr] at hj
  simp only [List.mem_singleton] at hj
  subst hj
  refine wpOp_step hi fun K hK => ?_
  rw [if_pos hw]
  exact h K (fun a w h1 h2 => hK a w ⟨h1, h2⟩)

theorem late_done {listed : Array Bool} {a : Act} {w : World} (hr : Region.ready md ops listed = []) (h : Q .normal a w) :
    ∀ fuel, wpAnyL P md ops Q late S fuel listed a w
  | 0 => ⟨hr, h⟩
  | _ + 1 => ⟨fun _ => h, by rw [hr]; simp⟩
end

/-- The beginning. -/
theorem late_begin {ops : Array Oper} {Q : Exit → Act → World → Prop} {a : Act} {w : World} {id : Nat} (late : List Nat) (S : World → Prop) (hm : Tryd.prog.follows .mixedOrders = true) (h : wpAnyL Tryd.prog .any ops (NoPanic Q) late S ops.size (Array.replicate ops.size false) a w.drew) : (Code.region id ops true).wp Tryd.prog Q a w :=
  wp_region_noPanic (wp_region_any hm (wpAny_of_late _ _ _ _ h))

/-- A call. -/
theorem late_call {ops : Array Oper} {Q : Exit → Act → World → Prop} {md : Region.Mode} {late : List Nat} {S : World → Prop} {o : Oper} {fuel : Nat} {listed : Array Bool} {a : Act} {w : World} (i : Nat) (d : Option Tmp) (hr : Region.ready md ops listed = [i]) (hi : ops[i]? = some o) (hw : Region.wanted o (yielded ops a.tmps) = true) (hd : o.dst = d) (f : FuncId) (args : Array Value)
    (he : (execOp a.eval o).run Tryd.prog w = .ok (.enter f args) w) (R : Ending → World → Prop) (hc : Calls Tryd.prog f args w R)
    (h : ∀ e w', R e w' → ∃ v, e = .returned v ∧ LateOr late S (listed.setIfInBounds i true) w' ∧ wpAnyL Tryd.prog md ops Q late S fuel (listed.setIfInBounds i true) (a.put d v) w') : wpAnyL Tryd.prog md ops Q late S (fuel + 1) listed a w := by
  subst hd
  refine late_one i hr hi hw fun K hK => ?_
  unfold Oper.wp
  rw [he]
  simp only [Oper.upon]
  refine hc.mono ?_
  intro e w' hR
  obtain ⟨v, rfl, hS, hn⟩ := h e w' hR
  exact hK.out _ _ hS hn

/-- A nat is written whole. -/
theorem late_store {ops : Array Oper} {Q : Exit → Act → World → Prop} {md : Region.Mode} {late : List Nat} {S : World → Prop} {o : Oper} {fuel : Nat} {listed : Array Bool} {a : Act} {w : World} (i : Nat) (hr : Region.ready md ops listed = [i]) (hi : ops[i]? = some o) (hw : Region.wanted o (yielded ops a.tmps) = true) (x y : Operand) (ho : o.op = .store 46 x y) (hd : o.dst = none)
    (b : Nat) (u : Int) (p : List Int) (hx : a.eval x = .pointer (some ⟨b, 0, none⟩)) (hy : a.eval y = .agg (natC u p)) (u0 : Int) (p0 : List Int) (hN : NatAt w b u0 p0) (h0 : p0.length = 204) (hl : p.length = 204)
    (h : ∀ w', NatAt w' b u p → w.grownBy w' (some b) → w'.heap.size = w.heap.size → LateOr late S (listed.setIfInBounds i true) w' ∧ wpAnyL Tryd.prog md ops Q late S fuel (listed.setIfInBounds i true) a w') : wpAnyL Tryd.prog md ops Q late S (fuel + 1) listed a w := by
  refine late_one i hr hi hw fun K hK => ?_
  refine wp_store_row 46 x y ho b (natC u p) hx hy 46 (natC u0 p0) hN (nat_info u p hl) (by rw [natC_size, natC_size, h0, hl]) (natC_one _ _) ?_
  rw [hd]
  have := h _ (setRow_heap w b _ _ _ _ hN) ⟨rfl, rfl, rfl, by simp, fun k _ hne => setRow_other w b k _ (by intro e; exact hne (by rw [e]))⟩ (by simp)
  exact hK.out _ _ this.1 this.2
end Go.Proofs.YtmfpnbmfcoahbaaDoor

/-
  What impl.CompareNat answers.
-/
namespace Go.Proofs.YtmfpnbmfcoahbaaDoor
open Go.RowKit
set_option linter.unusedVariables false

theorem cmpAt_rep {n m k : Nat} {p q : List Int} (h : Rep n k p) (g : Rep m k q) (j : Nat) (hj : j ≤ k) (ab : ∀ i, j ≤ i → p.getD i 0 = q.getD i 0) : cmpAt p q j = cmpI n m := by
  induction j with
  | zero => 
    have : n = m := h.ext g (fun i _ => ab i (Nat.zero_le _))
    rw [cmpI_eq (by omega)]; rfl
  | succ j ih =>
    have hk := h.le
    have hlp := h.len
    unfold cmpAt
    split
    · rename_i e
      exact ih (by omega) (fun i hi => by
        by_cases e' : i = j
        · rw [e']; exact e
        · exact ab i (by omega))
    · rename_i e
      have hv := h.val
      have gv := g.val
      rcases Int.lt_or_gt_of_ne e with hl | hl
      · have := vb_less 1000000 (by omega) p q j (by rw [h.len, g.len]) (by omega) h.lo h.hi g.lo g.hi (fun i hi => ab i (by omega)) hl
        rw [cmpI_lt hl, cmpI_lt (by omega)]
      · have := vb_less 1000000 (by omega) q p j (by rw [h.len, g.len]) (by rw [g.len]; omega) g.lo g.hi h.lo h.hi (fun i hi => (ab i (by omega)).symm) hl
        rw [cmpI_gt hl, cmpI_gt (by omega)]

theorem compare_rep {n m k j : Nat} {p q : List Int} (w : World) (h : Rep n k p) (g : Rep m j q) :
    Calls Tryd.prog 32 #[.agg (natC k p), .agg (natC j q)] w fun e w' => e = .returned (.int .i64 (cmpI n m)) ∧ Below w.heap.size w w' := by
  by_cases hk : k = j
  · subst hk
    refine (compare_eq k p q w h.len g.len h.le).mono ?_
    rintro e w' ⟨rfl, hW⟩
    exact ⟨ret_int (cmpAt_rep h g k (Nat.le_refl _) (fun i hi => by rw [h.out i hi, g.out i hi])), hW⟩
  · refine (compare_ne k j p q w hk).mono ?_
    rintro e w' ⟨rfl, hW⟩
    refine ⟨ret_int ?_, hW⟩
    rcases Nat.lt_or_gt_of_ne hk with hl | hl
    · have := h.cnt_lt g hl; rw [cmpI_lt (by omega), cmpI_lt (by omega)]
    · have := g.cnt_lt h hl; rw [cmpI_gt (by omega), cmpI_gt (by omega)]

set_option maxHeartbeats 1000000 in
set_option maxRecDepth 100000 in
theorem implCompare_any (a b : ByteArray) (w : World) (hsa : a.size ≤ maxLen) (hsb : b.size ≤ maxLen) :
    Calls Tryd.prog 11 #[.string a, .string b] w fun e w' => e = cmpAns a b ∧ Below w.heap.size w w' := by
  have hz := zero_nat.1
  go_enter Tryd.func11, Tryd.ntmps11
  go_wp2_with fail
  refine (readNats_any a b _ hsa hsb).mono ?_
  rintro e w1 ⟨k, m, p, q, oa, ob, rfl, hRa, hRb, hW1⟩
  have hp := hRa.len
  have hq := hRb.len
  have hs1 := hW1.size
  have A := (NatAt.new w1 0 zP).old (.cells (natC 0 zP) 46)
  have B := NatAt.new (w1.alloc (.cells (natC 0 zP) 46)) 0 zP
  have hB : Below w.heap.size w ((w1.alloc (.cells (natC 0 zP) 46)).alloc (.cells (natC 0 zP) 46)) := (hW1.alloc (by omega) _).alloc (by simp; omega) _
  simp only [World.size_alloc] at B
  have hok : oa = goodB a.data.toList := hRa.ok
  have hok' : ob = goodB b.data.toList := hRb.ok
  cases hg : (oa && ob) with
  | true =>
    have HG : Hid ((goodB a.data.toList && goodB b.data.toList) = true) := by unfold Hid; rw [← hok, ← hok']; exact hg
    have ra : Rep (dval a.data.toList) k p := hRa.rep (by have := HG.out; simp only [Bool.and_eq_true] at this; exact this.1)
    have rb : Rep (dval b.data.toList) m q := hRb.rep (by have := HG.out; simp only [Bool.and_eq_true] at this; exact this.2)
    clear hg
    go_wp2_with (first | (refine store_nat rfl _ _ rfl rfl w1.heap.size k p rfl rfl 0 zP A zP_len hp ?_; intro w2 hN2 hg2 hs2) | (refine store_nat rfl _ _ rfl rfl (w1.heap.size + 1) m q rfl rfl 0 zP (B.grown hg2 (by simp)) zP_len hq ?_; intro w3 hN3 hg3 hs3) | (refine load_nat rfl _ rfl w1.heap.size rfl k p (hN2.grown hg3 (by simp)) hp ?_) | (refine load_nat rfl _ rfl (w1.heap.size + 1) rfl m q hN3 hq ?_))
    refine (compare_rep w3 ra rb).mono ?_
    rintro e w4 ⟨rfl, hW4⟩
    have hB3 : Below w.heap.size w w3 := (hB.grown hg2 (by simp; omega) (by intro k hk; cases hk; omega)).grown hg3 (by rw [hs2]; simp; omega) (by intro k hk; cases hk; omega)
    have hs3 := hB3.size
    go_wp2
    go_ret2
    exact ⟨cmpAns_yes HG.out, hB3.trans (hW4.mono (by omega))⟩
  | false =>
    have HG : Hid ((goodB a.data.toList && goodB b.data.toList) = false) := by unfold Hid; rw [← hok, ← hok']; exact hg
    clear hg
    go_wp2_with (first | (refine store_nat rfl _ _ rfl rfl w1.heap.size k p rfl rfl 0 zP A zP_len hp ?_; intro w2 hN2 hg2 hs2) | (refine store_nat rfl _ _ rfl rfl (w1.heap.size + 1) m q rfl rfl 0 zP (B.grown hg2 (by simp)) zP_len hq ?_; intro w3 hN3 hg3 hs3))
    go_ret2
    exact ⟨cmpAns_no HG.out, (hB.grown hg2 (by simp; omega) (by intro k hk; cases hk; omega)).grown hg3 (by rw [hs2]; simp; omega) (by intro k hk; cases hk; omega)⟩
end Go.Proofs.YtmfpnbmfcoahbaaDoor
