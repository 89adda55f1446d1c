/-
  What the closure multiply of impl.MulByHalves answers: the product, and the count that it leaves.
-/
import Derived.Test.YtfdlncaplalenaaDoorImplCut
import Derived.Test.YtfdlncaplalenaaDoorFloat3
import Derived.Test.YtfdlncaplalenaaDoorFloat
import Derived.Test.YtfdlncaplalenaaDoorSpecHal
import Derived.Shelf.Abstract
namespace Go.Proofs.YtfdlncaplalenaaDoor
open Go.RowKit
set_option linter.unusedVariables false

/-- Nothing that was there is turned but one block. -/
structure Kp (bd : Nat) (w w' : World) : Prop where
  os : w'.os = w.os
  tape : w'.tape = w.tape
  output : w'.output = w.output
  size : w.heap.size ≤ w'.heap.size
  block : ∀ k, k < w.heap.size → k ≠ bd → w'.heap[k]? = w.heap[k]?
theorem Kp.refl (bd : Nat) (w : World) : Kp bd w w := ⟨rfl, rfl, rfl, Nat.le_refl _, fun _ _ _ => rfl⟩
theorem Kp.trans {bd : Nat} {a b c : World} (h : Kp bd a b) (g : Kp bd b c) : Kp bd a c :=
  ⟨g.os.trans h.os, g.tape.trans h.tape, g.output.trans h.output, Nat.le_trans h.size g.size, fun k hk hne => (g.block k (Nat.lt_of_lt_of_le hk h.size) hne).trans (h.block k hk hne)⟩
theorem Kp.below {bd B : Nat} {w w' : World} (h : Below B w w') (hB : w.heap.size ≤ B) : Kp bd w w' := ⟨h.os, h.tape, h.output, h.size, fun k hk _ => h.block k (Nat.lt_of_lt_of_le hk hB)⟩
theorem Kp.drew {bd : Nat} {w w' : World} (h : Kp bd w w') : Kp bd w w'.drew := ⟨h.os, h.tape, h.output, h.size, h.block⟩
theorem Kp.alloc {bd : Nat} {w w' : World} (h : Kp bd w w') (o : Obj) : Kp bd w (w'.alloc o) := h.trans (Kp.below ((Below.refl _ _).alloc (Nat.le_refl _) o) (Nat.le_refl _))
theorem Kp.own {bd b : Nat} {w w' w'' : World} (h : Kp bd w w') (hg : w'.grownBy w'' (some b)) (hb : w.heap.size ≤ b ∨ b = bd) : Kp bd w w'' :=
  ⟨hg.os.trans h.os, hg.tape.trans h.tape, hg.output.trans h.output, Nat.le_trans h.size hg.size, fun k hk hne => (hg.block k (Nat.lt_of_lt_of_le hk h.size) (by intro e; injection e with e; omega)).trans (h.block k hk hne)⟩
theorem Kp.to {bd N : Nat} {w w' : World} (h : Kp bd w w') (h1 : N ≤ bd) (h2 : bd < w.heap.size) : Below N w w' := ⟨h.os, h.tape, h.output, h.size, fun k hk => h.block k (by omega) (by omega)⟩
theorem RowAt.kp {w w' : World} {b bd : Nat} {t : TypeId} {cs : Array Value} (h : RowAt w b t cs) (K : Kp bd w w') (hne : b ≠ bd) : RowAt w' b t cs := by
  unfold RowAt at h ⊢; rw [K.block b (RowAt.lt h) hne]; exact h
theorem NatAt.kp {w w' : World} {b bd : Nat} {u : Int} {p : List Int} (h : NatAt w b u p) (K : Kp bd w w') (hne : b ≠ bd) : NatAt w' b u p := RowAt.kp (t := 41) h K hne
theorem cell0 {w : World} {b : Nat} {t : TypeId} {v : Value} (h : RowAt w b t #[v]) : w.cell? ⟨b, 0, none⟩ = some v := by rw [cell_of_row _ _ _ _ _ _ h]; rfl

/-- The closure. -/
def CL (bl bd bm : Nat) : Value := .func (.func 13) #[] #[.pointer (some ⟨bl, 0, none⟩), .pointer (some ⟨bd, 0, none⟩), .pointer (some ⟨bm, 0, none⟩)]
/-- The variables that it holds: the least length, the count and itself. -/
structure HalAt (N0 bl bd bm l : Nat) (x : Int) (w : World) : Prop where
  rl : RowAt w bl 3 #[.int .i64 (l : Int)]
  rd : RowAt w bd 3 #[.int .i64 x]
  rm : RowAt w bm 44 #[CL bl bd bm]
  ld : bl ≠ bd
  md : bm ≠ bd
  n0 : N0 ≤ bd
  tab : Tab N0 w
theorem HalAt.keep {N0 bl bd bm l : Nat} {x y : Int} {w w' : World} (h : HalAt N0 bl bd bm l x w) (K : Kp bd w w') (hd : RowAt w' bd 3 #[.int .i64 y]) : HalAt N0 bl bd bm l y w' :=
  ⟨h.rl.kp K h.ld, hd, h.rm.kp K h.md, h.ld, h.md, h.n0, h.tab.on (K.to h.n0 h.rd.lt)⟩
theorem HalAt.up {N0 bl bd bm l : Nat} {x : Int} {w : World} (h : HalAt N0 bl bd bm l x w) : Tab w.heap.size w := h.tab.up (by have := h.n0; have := h.rd.lt; omega)
/-- How great the factors are. -/
def Bd (A B : Nat) : Prop := A < 10 ^ 600 ∧ B < 10 ^ 600 ∧ A * B < 10 ^ 601
theorem Bd.sub {A B A' B' : Nat} (h : Bd A B) (hA : A' ≤ A) (hB : B' ≤ B) : Bd A' B' := ⟨Nat.lt_of_le_of_lt hA h.1, Nat.lt_of_le_of_lt hB h.2.1, Nat.lt_of_le_of_lt (Nat.mul_le_mul hA hB) h.2.2⟩
/-- What it answers. -/
def MulAns (bd l A B : Nat) (x : Int) (w : World) (e : Ending) (w' : World) : Prop :=
  ∃ (i : Nat) (r : List Int) (c : Nat), e = .returned (.agg (natC i r)) ∧ Rep (A * B) i r ∧ Hal l A B c ∧ RowAt w' bd 3 #[.int .i64 (IntKind.i64.wrap (x + (c : Int)))] ∧ Kp bd w w'
/-- A count of parts, out of a bound. -/
theorem Rep.cnt {n k : Nat} {p : List Int} (h : Rep n k p) (d M : Nat) (hn : n * 10 ^ d < 10 ^ M) (hk : 0 < k) : 6 * k + d < M + 6 := by
  have h1 := h.geN hk
  have e : (1000000 : Nat) ^ (k - 1) = 10 ^ (6 * (k - 1)) := by rw [Nat.pow_mul]
  rw [e] at h1
  have h2 : 10 ^ (6 * (k - 1)) * 10 ^ d < 10 ^ M := Nat.lt_of_le_of_lt (Nat.mul_le_mul_right _ h1) hn
  rw [← Nat.pow_add] at h2
  have h3 := (Nat.pow_lt_pow_iff_right (by decide : 1 < 10)).1 h2
  omega
theorem LenH.le {n L T : Nat} (h : LenH n L) (hT : 1 ≤ T) (hn : n < 10 ^ T) : L ≤ T := by
  by_cases h0 : n = 0
  · rw [h.2.2.2 h0]; exact hT
  · have h1 := (Nat.pow_lt_pow_iff_right (by decide : 1 < 10)).1 (Nat.lt_of_le_of_lt (h.2.2.1 h0) hn)
    have := h.1
    omega
theorem Rep.cnt0 {n k : Nat} {p : List Int} (h : Rep n k p) {M : Nat} (hn : n < 10 ^ M) (c : Nat) (hc : M ≤ 6 * c) : k ≤ c := by
  rcases Nat.eq_zero_or_pos k with h0 | h0
  · omega
  · have := h.cnt 0 M (by simpa using hn) h0
    omega
/-- A call of a function value. -/
theorem run_call_fn {o : Oper} {a : Act} {w : World} {f : FuncId} {t x y : Operand} {u v : Value} {c1 c2 c3 : Value} {ts : Array TypeId} (hcf : ∀ args w, (callFunc f args).run Tryd.prog w = .ok (.enter f args) w) (ho : o.op = .call { callee := .value t, args := #[x, y], argTypes := ts })
    (ht : a.eval t = .func (.func f) #[] #[c1, c2, c3]) (hx : a.eval x = u) (hy : a.eval y = v) :
    (execOp a.eval o).run Tryd.prog w = .ok (.enter f #[u, v, c1, c2, c3]) w := by
  subst hx hy
  unfold execOp
  simp only [ho]
  simp only [resolve, ht]
  go_simp
theorem enters_hal : ∀ args w, (callFunc 13 args).run Tryd.prog w = .ok (.enter 13 args) w := enters_of Tryd.func13 (by kernel_rfl) rfl
theorem enters_plus : ∀ args w, (callFunc 17 args).run Tryd.prog w = .ok (.enter 17 args) w := enters_of Tryd.func17 (by kernel_rfl) rfl
/-- The four parts and the closure, as they lie. -/
structure Four (b7 b9 b10 b11 b12 : Nat) (i1 i0 j1 j0 : Nat) (r1 r0 s1 s0 : List Int) (bm : Nat) (F : Value) (w : World) : Prop where
  h7 : NatAt w b7 0 zP
  h9 : NatAt w b9 i1 r1
  h10 : NatAt w b10 i0 r0
  h11 : NatAt w b11 j1 s1
  h12 : NatAt w b12 j0 s0
  hm : RowAt w bm 44 #[F]
theorem Four.kp {b7 b9 b10 b11 b12 i1 i0 j1 j0 : Nat} {r1 r0 s1 s0 : List Int} {bm bd : Nat} {F : Value} {w w' : World} (h : Four b7 b9 b10 b11 b12 i1 i0 j1 j0 r1 r0 s1 s0 bm F w) (K : Kp bd w w') (n7 : b7 ≠ bd) (n9 : b9 ≠ bd) (n10 : b10 ≠ bd) (n11 : b11 ≠ bd) (n12 : b12 ≠ bd) (nm : bm ≠ bd) : Four b7 b9 b10 b11 b12 i1 i0 j1 j0 r1 r0 s1 s0 bm F w' :=
  ⟨h.h7.kp K n7, h.h9.kp K n9, h.h10.kp K n10, h.h11.kp K n11, h.h12.kp K n12, h.hm.kp K nm⟩
/-- What is known between the calls: the count, what S says, and that nothing else is turned. -/
structure J7 (bd : Nat) (w : World) (z : Nat) (S : World → Prop) (y : Int) (w' : World) : Prop where
  kp : Kp bd w w'
  d : RowAt w' bd 3 #[.int .i64 y]
  s : S w'
  z : z ≤ w'.heap.size

set_option maxHeartbeats 16000000 in
set_option maxRecDepth 100000 in
theorem mult_all (N0 bl bd bm l : Nat) (hl : 1 ≤ l) (hl2 : l ≤ 100) : ∀ (N A B k j : Nat) (p q : List Int) (x : Int) (w : World), A + B = N → Rep A k p → Rep B j q → Bd A B → HalAt N0 bl bd bm l x w →
    Calls Tryd.prog 13 #[.agg (natC k p), .agg (natC j q), .pointer (some ⟨bl, 0, none⟩), .pointer (some ⟨bd, 0, none⟩), .pointer (some ⟨bm, 0, none⟩)] w (MulAns bd l A B x w) := by
  intro N
  induction N using Nat.strongRecOn with
  | _ N ih =>
    intro A B k j p q x w hN hP hQ hbd hH
    have hz := zero_nat.1
    have hp := hP.len
    have hq := hQ.len
    have hk : k ≤ 100 := hP.fits.2 hbd.1
    have hj : j ≤ 100 := hQ.fits.2 hbd.2.1
    have A5 := ((NatAt.new w k p).old (.cells (natC j q) 41)).old (.cells (natC 0 zP) 41)
    have A6 := (NatAt.new (w.alloc (.cells (natC k p) 41)) j q).old (.cells (natC 0 zP) 41)
    have A7 := NatAt.new ((w.alloc (.cells (natC k p) 41)).alloc (.cells (natC j q) 41)) 0 zP
    have hB : Below w.heap.size w (((w.alloc (.cells (natC k p) 41)).alloc (.cells (natC j q) 41)).alloc (.cells (natC 0 zP) 41)) := (((Below.refl _ _).alloc (Nat.le_refl _) _).alloc (by first | (simp; done) | (simp; omega)) _).alloc (by first | (simp; done) | (simp; omega)) _
    have hws : (((w.alloc (.cells (natC k p) 41)).alloc (.cells (natC j q) 41)).alloc (.cells (natC 0 zP) 41)).heap.size = w.heap.size + 1 + 1 + 1 := by simp
    simp only [World.size_alloc] at A6 A7
    have HP := hideT' (And.intro hP (And.intro hQ (And.intro hbd hH)))
    have HIH := hideT' ih
    have HN := hideT' hN
    have hll := hH.rl.lt
    have hdl := hH.rd.lt
    have hml := hH.rm.lt
    have hld := hH.ld
    have hmd := hH.md
    have D0 := RowAt.below hH.rd hB hdl
    have L0 := RowAt.below hH.rl hB hll
    have M0 := RowAt.below hH.rm hB hml
    clear ih hN hP hQ hbd hH
    go_enter Tryd.func13, Tryd.ntmps13
    generalize hw0 : ((w.alloc (.cells (natC k p) 41)).alloc (.cells (natC j q) 41)).alloc (.cells (natC 0 zP) 41) = w0 at A5 A6 A7 hB hws D0 L0 M0
    have HWS := hideT' hws
    clear hws
    go_wp2_with fail
    clear hw0
    have hws := HWS.out
    refine held_begin (fun w' => NatAt w' w.heap.size k p ∧ NatAt w' (w.heap.size + 1) j q ∧ RowAt w' bl 3 #[.int .i64 (l : Int)]) (by kernel_rfl) ?_
    have hS : NatAt w0.drew w.heap.size k p ∧ NatAt w0.drew (w.heap.size + 1) j q ∧ RowAt w0.drew bl 3 #[.int .i64 (l : Int)] := ⟨A5, A6, L0⟩
    refine held_load 0 (some 18) rfl rfl (by kernel_rfl) (by kernel_rfl) (by kernel_rfl) noPanic_put rfl _ rfl (w.heap.size) rfl k p (fun _ h => h.1) hp hS ?_
    simp only [Act.put, List.setIfInBounds_toArray, List.set_cons_zero, List.set_cons_succ]
    refine held_load 2 (some 20) rfl rfl (by kernel_rfl) (by kernel_rfl) (by kernel_rfl) noPanic_put rfl _ rfl (w.heap.size + 1) rfl j q (fun _ h => h.2.1) hq hS ?_
    simp only [Act.put, List.setIfInBounds_toArray, List.set_cons_zero, List.set_cons_succ]
    refine held_valS 5 (some 23) rfl rfl (by kernel_rfl) (by kernel_rfl) (by kernel_rfl) noPanic_put rfl (.int .i64 (l : Int)) (fun _ h => BL.run_cell1 (.tmp 2) 3 rfl ⟨bl, 0, none⟩ rfl _ Tryd.underlying3 rfl (cell0 h.2.2)) hS ?_
    simp only [Act.put, List.setIfInBounds_toArray, List.set_cons_zero, List.set_cons_succ]
    have K0 : Kp bd w w0.drew := Kp.drew (Kp.below hB (Nat.le_refl _))
    replace D0 : RowAt w0.drew bd 3 #[.int .i64 x] := D0
    replace M0 : RowAt w0.drew bm 44 #[CL bl bd bm] := M0
    replace A7 : NatAt w0.drew (w.heap.size + 1 + 1) 0 zP := A7
    clear A5 A6 L0 hB
    refine held_call 1 (some 19) (by kernel_rfl) rfl rfl rfl 14 #[.agg (natC k p)] (by go_simp) _ (length_any w0.drew HP.out.1 (HalAt.up (HP.out.2.2.2.keep (y := x) K0 D0))) ?_
    rintro e w1 ⟨La, rfl, hLa, hLa1, hW1⟩
    have K1 : Kp bd w w1 := K0.trans (Kp.below hW1 (Nat.le_refl _))
    have hS1 : NatAt w1 w.heap.size k p ∧ NatAt w1 (w.heap.size + 1) j q ∧ RowAt w1 bl 3 #[.int .i64 (l : Int)] := ⟨hS.1.below hW1 (NatAt.lt hS.1), hS.2.1.below hW1 (NatAt.lt hS.2.1), hS.2.2.below hW1 (RowAt.lt hS.2.2)⟩
    have D1 : RowAt w1 bd 3 #[.int .i64 x] := RowAt.below D0 hW1 (RowAt.lt D0)
    have M1 : RowAt w1 bm 44 #[CL bl bd bm] := RowAt.below M0 hW1 (RowAt.lt M0)
    have Z1 : NatAt w1 (w.heap.size + 1 + 1) 0 zP := A7.below hW1 (NatAt.lt A7)
    refine ⟨_, rfl, hS1, ?_⟩
    clear hS K0 D0 M0 A7 hW1
    have hS := hS1
    have K0 := K1
    have D0 := D1
    have M0 := M1
    have A7 := Z1
    clear hS1 K1 D1 M1 Z1
    simp only [Act.put, List.setIfInBounds_toArray, List.set_cons_zero, List.set_cons_succ]
    refine held_call 3 (some 21) (by kernel_rfl) rfl rfl rfl 14 #[.agg (natC j q)] (by go_simp) _ (length_any w1 HP.out.2.1 (HalAt.up (HP.out.2.2.2.keep (y := x) K0 D0))) ?_
    rintro e w2 ⟨Lb, rfl, hLb, hLb1, hW1⟩
    have K1 : Kp bd w w2 := K0.trans (Kp.below hW1 (Nat.le_refl _))
    have hS1 : NatAt w2 w.heap.size k p ∧ NatAt w2 (w.heap.size + 1) j q ∧ RowAt w2 bl 3 #[.int .i64 (l : Int)] := ⟨hS.1.below hW1 (NatAt.lt hS.1), hS.2.1.below hW1 (NatAt.lt hS.2.1), hS.2.2.below hW1 (RowAt.lt hS.2.2)⟩
    have D1 : RowAt w2 bd 3 #[.int .i64 x] := RowAt.below D0 hW1 (RowAt.lt D0)
    have M1 : RowAt w2 bm 44 #[CL bl bd bm] := RowAt.below M0 hW1 (RowAt.lt M0)
    have Z1 : NatAt w2 (w.heap.size + 1 + 1) 0 zP := A7.below hW1 (NatAt.lt A7)
    refine ⟨_, rfl, hS1, ?_⟩
    clear hS K0 D0 M0 A7 hW1
    have hS := hS1
    have K0 := K1
    have D0 := D1
    have M0 := M1
    have A7 := Z1
    clear hS1 K1 D1 M1 Z1
    simp only [Act.put, List.setIfInBounds_toArray, List.set_cons_zero, List.set_cons_succ]
    obtain ⟨mn, hmn⟩ : ∃ mn, mn = min La Lb := ⟨_, rfl⟩
    refine held_val 4 (some 22) rfl rfl (by kernel_rfl) (by kernel_rfl) (by kernel_rfl) noPanic_put rfl (.int .i64 (mn : Int)) (fun _ => by go_simp; omega) hS ?_
    simp only [Act.put, List.setIfInBounds_toArray, List.set_cons_zero, List.set_cons_succ]
    refine held_val 6 (some 24) rfl rfl (by kernel_rfl) (by kernel_rfl) (by kernel_rfl) noPanic_put rfl (.bool (decide ((mn : Int) ≤ (l : Int)))) (fun _ => by go_simp) hS ?_
    simp only [Act.put, List.setIfInBounds_toArray, List.set_cons_zero, List.set_cons_succ]
    refine wpAnyH_done (by kernel_rfl) ?_ _
    refine NoPanic.normal ?_
    have HLn := hideT' (And.intro hLa hLb)
    have hmn2 : mn ≤ La ∧ mn ≤ Lb ∧ (mn = La ∨ mn = Lb) := by omega
    clear hLa hLb hmn
    by_cases hle : (mn : Int) ≤ (l : Int)
    · have HD : Hid (Hal l A B 1) := Hal.one HLn.out.1 HLn.out.2 (by omega)
      clear hmn2 HLn
      have hws2 : w.heap.size + 1 + 1 < w2.heap.size := NatAt.lt A7
      have cd := cell0 D0
      have A5 := hS.1
      have A6 := hS.2.1
      clear hS hws
      have hfr : w2.frozen? ⟨bd, 0, none⟩ = false := frozen_of_row w2 bd 0 _ _ D0
      have hD3 : RowAt (w2.setCell ⟨bd, 0, none⟩ (.int .i64 (wrap64 (x + 1)))) bd 3 #[.int .i64 (wrap64 (x + 1))] := heap_setCell_same w2 bd 0 _ _ _ D0
      have hg3 := grown_set w2 bd 0 (.int .i64 (wrap64 (x + 1)))
      have A53 := A5.grown hg3 (by simp; omega)
      have A63 := A6.grown hg3 (by simp; omega)
      have A73 := A7.grown hg3 (by simp; omega)
      have HK3 := hideT' (And.intro hD3 hg3)
      clear hD3 hg3
      go_wp2_with (first | (refine load_nat rfl (.tmp 5) rfl w.heap.size rfl k p A53 hp ?_) | (refine load_nat rfl (.tmp 6) rfl (w.heap.size + 1) rfl j q A63 hq ?_))
      obtain ⟨hD3, hg3⟩ := HK3.out
      clear HK3 cd hfr
      generalize w2.setCell ⟨bd, 0, none⟩ (.int .i64 (wrap64 (x + 1))) = w3 at hD3 hg3 A53 A63 A73 ⊢
      have K3 : Kp bd w w3 := K0.own hg3 (.inr rfl)
      refine (times_any w3 HP.out.1 HP.out.2.1 hk hj).mono ?_
      rintro e w4 ⟨i, r, rfl, hR, hW4⟩
      have hr := hR.len
      have HR := hideT' hR
      have D4 := hideT' (RowAt.below hD3 hW4 hD3.lt)
      have A74 := A73.below hW4 A73.lt
      have K4 : Kp bd w w4 := K3.trans (Kp.below hW4 (Nat.le_refl _))
      clear A5 A6 A7 D0 M0 K0 hD3 hg3 A53 A63 A73 K3 hW4 hR
      go_wp2_with (first | (refine store_nat rfl (.tmp 7) _ rfl rfl (w.heap.size + 1 + 1) i r rfl rfl 0 zP A74 zP_len hr ?_; intro w5 hN5 hg5 hs5))
      refine bodyPost_ret (v := .agg (natC i r)) (res_nat Tryd.results13 _ _ (w.heap.size + 1 + 1) _ _ rfl hN5 hr) rfl ⟨i, r, 1, rfl, HR.out, HD.out, (by rw [show x + ((1 : Nat) : Int) = x + 1 by simp, IntWalk.i64_left]; exact D4.out.grown hg5 (by simp; omega)), K4.own hg5 (.inl (by omega))⟩
    · have hbig : ¬ (La ≤ l ∨ Lb ≤ l) := by omega
      clear hmn2
      go_wp2_with fail
      refine held_begin (fun w' => NatAt w' w.heap.size k p ∧ NatAt w' (w.heap.size + 1) j q ∧ RowAt w' bl 3 #[.int .i64 (l : Int)]) (by kernel_rfl) ?_
      replace hS : NatAt w2.drew w.heap.size k p ∧ NatAt w2.drew (w.heap.size + 1) j q ∧ RowAt w2.drew bl 3 #[.int .i64 (l : Int)] := hS
      replace K0 : Kp bd w w2.drew := K0.drew
      replace D0 : RowAt w2.drew bd 3 #[.int .i64 x] := D0
      replace M0 : RowAt w2.drew bm 44 #[CL bl bd bm] := M0
      replace A7 : NatAt w2.drew (w.heap.size + 1 + 1) 0 zP := A7
      refine held_load 0 (some 30) rfl rfl (by kernel_rfl) (by kernel_rfl) (by kernel_rfl) noPanic_put rfl _ rfl (w.heap.size) rfl k p (fun _ h => h.1) hp hS ?_
      simp only [Act.put, List.setIfInBounds_toArray, List.set_cons_zero, List.set_cons_succ]
      refine held_load 2 (some 32) rfl rfl (by kernel_rfl) (by kernel_rfl) (by kernel_rfl) noPanic_put rfl _ rfl (w.heap.size + 1) rfl j q (fun _ h => h.2.1) hq hS ?_
      simp only [Act.put, List.setIfInBounds_toArray, List.set_cons_zero, List.set_cons_succ]
      refine held_call 1 (some 31) (by kernel_rfl) rfl rfl rfl 14 #[.agg (natC k p)] (by go_simp) _ (length_any w2.drew HP.out.1 (HalAt.up (HP.out.2.2.2.keep (y := x) K0 D0))) ?_
      rintro e w3 ⟨Lc, rfl, hLc, hLc1, hW1⟩
      have K1 : Kp bd w w3 := K0.trans (Kp.below hW1 (Nat.le_refl _))
      have hS1 : NatAt w3 w.heap.size k p ∧ NatAt w3 (w.heap.size + 1) j q ∧ RowAt w3 bl 3 #[.int .i64 (l : Int)] := ⟨hS.1.below hW1 (NatAt.lt hS.1), hS.2.1.below hW1 (NatAt.lt hS.2.1), hS.2.2.below hW1 (RowAt.lt hS.2.2)⟩
      have D1 : RowAt w3 bd 3 #[.int .i64 x] := RowAt.below D0 hW1 (RowAt.lt D0)
      have M1 : RowAt w3 bm 44 #[CL bl bd bm] := RowAt.below M0 hW1 (RowAt.lt M0)
      have Z1 : NatAt w3 (w.heap.size + 1 + 1) 0 zP := A7.below hW1 (NatAt.lt A7)
      refine ⟨_, rfl, hS1, ?_⟩
      clear hS K0 D0 M0 A7 hW1
      have hS := hS1
      have K0 := K1
      have D0 := D1
      have M0 := M1
      have A7 := Z1
      clear hS1 K1 D1 M1 Z1
      simp only [Act.put, List.setIfInBounds_toArray, List.set_cons_zero, List.set_cons_succ]
      refine held_call 3 (some 33) (by kernel_rfl) rfl rfl rfl 14 #[.agg (natC j q)] (by go_simp) _ (length_any w3 HP.out.2.1 (HalAt.up (HP.out.2.2.2.keep (y := x) K0 D0))) ?_
      rintro e w4 ⟨Ld, rfl, hLd, hLd1, hW1⟩
      have K1 : Kp bd w w4 := K0.trans (Kp.below hW1 (Nat.le_refl _))
      have hS1 : NatAt w4 w.heap.size k p ∧ NatAt w4 (w.heap.size + 1) j q ∧ RowAt w4 bl 3 #[.int .i64 (l : Int)] := ⟨hS.1.below hW1 (NatAt.lt hS.1), hS.2.1.below hW1 (NatAt.lt hS.2.1), hS.2.2.below hW1 (RowAt.lt hS.2.2)⟩
      have D1 : RowAt w4 bd 3 #[.int .i64 x] := RowAt.below D0 hW1 (RowAt.lt D0)
      have M1 : RowAt w4 bm 44 #[CL bl bd bm] := RowAt.below M0 hW1 (RowAt.lt M0)
      have Z1 : NatAt w4 (w.heap.size + 1 + 1) 0 zP := A7.below hW1 (NatAt.lt A7)
      refine ⟨_, rfl, hS1, ?_⟩
      clear hS K0 D0 M0 A7 hW1
      have hS := hS1
      have K0 := K1
      have D0 := D1
      have M0 := M1
      have A7 := Z1
      clear hS1 K1 D1 M1 Z1
      simp only [Act.put, List.setIfInBounds_toArray, List.set_cons_zero, List.set_cons_succ]
      obtain rfl : La = Lc := LenH.one HLn.out.1 hLc
      obtain rfl : Lb = Ld := LenH.one HLn.out.2 hLd
      have hLa6 : La ≤ 600 := LenH.le HLn.out.1 (by decide) HP.out.2.2.1.1
      have hLb6 : Lb ≤ 600 := LenH.le HLn.out.2 (by decide) HP.out.2.2.1.2.1
      obtain ⟨mx, hmx⟩ : ∃ mx, mx = max La Lb := ⟨_, rfl⟩
      obtain ⟨m, hm⟩ : ∃ m, m = (mx + 1) / 2 := ⟨_, rfl⟩
      have hwm1 : IntKind.i64.wrap ((mx : Int) + 1) = ((mx + 1 : Nat) : Int) := by rw [IntKind.wrap_i64]; omega
      have hmt : ((mx + 1 : Nat) : Int).tdiv 2 = (m : Int) := by rw [Int.tdiv_eq_ediv_of_nonneg (by omega)]; omega
      have hmt2 : ((mx : Int) + 1).tdiv 2 = (m : Int) := by rw [Int.tdiv_eq_ediv_of_nonneg (by omega)]; omega
      have hm3 : m ≤ 300 := by omega
      have hwm2 : IntKind.i64.wrap (m : Int) = (m : Int) := by rw [IntKind.wrap_i64]; omega
      have HM : Hid (m = (max La Lb + 1) / 2) := by unfold Hid; rw [hm, hmx]
      refine held_val 4 (some 34) rfl rfl (by kernel_rfl) (by kernel_rfl) (by kernel_rfl) noPanic_put rfl (.int .i64 (mx : Int)) (fun _ => by go_simp; omega) hS ?_
      simp only [Act.put, List.setIfInBounds_toArray, List.set_cons_zero, List.set_cons_succ]
      clear hmx hm
      refine held_val 5 (some 35) rfl rfl (by kernel_rfl) (by kernel_rfl) (by kernel_rfl) noPanic_put rfl (.int .i64 ((mx + 1 : Nat) : Int)) (fun _ => by go_simp) hS ?_
      simp only [Act.put, List.setIfInBounds_toArray, List.set_cons_zero, List.set_cons_succ]
      refine held_val 6 (some 36) rfl rfl (by kernel_rfl) (by kernel_rfl) (by kernel_rfl) noPanic_put rfl (.int .i64 (m : Int)) (fun _ => by go_simp) hS ?_
      simp only [Act.put, List.setIfInBounds_toArray, List.set_cons_zero, List.set_cons_succ]
      refine held_assign 7 (some 8) (by kernel_rfl) rfl rfl _ rfl rfl _ rfl hS ?_
      simp only [Act.put, List.setIfInBounds_toArray, List.set_cons_zero, List.set_cons_succ]
      refine wpAnyH_done (by kernel_rfl) ?_ _
      refine NoPanic.normal ?_
      have HBig := hideT' hbig
      have A5 := hS.1
      have A6 := hS.2.1
      have hws2 : w.heap.size + 1 + 1 < w4.heap.size := NatAt.lt A7
      clear hbig hwm1 hmt hmt2 hLa1 hLb1 hLc1 hLd1 hLc hLd hS hle hws
      go_wp2_with (first | (refine load_nat rfl (.tmp 5) rfl w.heap.size rfl k p A5 hp ?_))
      refine (cutN_any m w4 HP.out.1 (by omega)).mono ?_
      rintro e w5 ⟨i1, r1, i0, r0, rfl, hR1, hR0, hW5⟩
      have l1 := hR1.len
      have l0 := hR0.len
      have K5 : Kp bd w w5 := K0.trans (Kp.below hW5 (Nat.le_refl _))
      have D5 := RowAt.below D0 hW5 D0.lt
      have M5 := RowAt.below M0 hW5 M0.lt
      have A65 := A6.below hW5 A6.lt
      have A75 := A7.below hW5 A7.lt
      have N9 := (NatAt.new w5 0 zP).old (.cells (natC 0 zP) 41)
      have N10 := NatAt.new (w5.alloc (.cells (natC 0 zP) 41)) 0 zP
      simp only [World.size_alloc] at N10
      have HR10 := hideT' (And.intro hR1 hR0)
      have hz5 := K5.size
      clear K0 D0 M0 A5 A6 A7 hW5 hR1 hR0 hws2
      go_wp2_with (first | (refine store_nat rfl (.tmp 9) _ rfl rfl w5.heap.size i1 r1 rfl rfl 0 zP N9 zP_len l1 ?_; intro w6 hN6 hg6 hs6; have N106 := N10.grown hg6 (by simp)) | (refine store_nat rfl (.tmp 10) _ rfl rfl (w5.heap.size + 1) i0 r0 rfl rfl 0 zP N106 zP_len l0 ?_; intro w7 hN7 hg7 hs7; have A67 := (((A65.old (.cells (natC 0 zP) 41)).old (.cells (natC 0 zP) 41)).grown hg6 (by simp; have := A65.lt; omega)).grown hg7 (by simp; have := A65.lt; omega)) | (refine load_nat rfl (.tmp 6) rfl (w.heap.size + 1) rfl j q A67 hq ?_))
      have hl65 := A65.lt
      have hl75 := A75.lt
      have A77 := (((A75.old (.cells (natC 0 zP) 41)).old (.cells (natC 0 zP) 41)).grown hg6 (by simp; omega)).grown hg7 (by simp; omega)
      have D7 := ((D5.old (.cells (natC 0 zP) 41)).old (.cells (natC 0 zP) 41) |>.grown hg6 (by simp; omega)).grown hg7 (by simp; omega)
      have M7 := ((M5.old (.cells (natC 0 zP) 41)).old (.cells (natC 0 zP) 41) |>.grown hg6 (by simp; omega)).grown hg7 (by simp; omega)
      have hN97 : NatAt w7 w5.heap.size i1 r1 := hN6.grown hg7 (by simp)
      have K7 : Kp bd w w7 := (((K5.alloc (.cells (natC 0 zP) 41)).alloc (.cells (natC 0 zP) 41)).own hg6 (.inl hz5)).own hg7 (.inl (by omega))
      have hs7' : w7.heap.size = w5.heap.size + 1 + 1 := by rw [hs7, hs6]; simp
      clear D5 M5 A65 A75 N9 N10 N106 hN6 hg6 hs6 hg7 hs7 K5
      refine (cutN_any m w7 HP.out.2.1 (by omega)).mono ?_
      rintro e w8 ⟨j1, s1, j0, s0, rfl, hS1, hS0, hW8⟩
      have m1 := hS1.len
      have m0 := hS0.len
      have hz8 : w5.heap.size + 1 + 1 ≤ w8.heap.size := by have := hW8.size; omega
      have K8 : Kp bd w w8 := K7.trans (Kp.below hW8 (Nat.le_refl _))
      have D8 := RowAt.below D7 hW8 D7.lt
      have M8 := RowAt.below M7 hW8 M7.lt
      have A78 := A77.below hW8 A77.lt
      have N98 := hN97.below hW8 hN97.lt
      have N108 := hN7.below hW8 hN7.lt
      have N11 := (NatAt.new w8 0 zP).old (.cells (natC 0 zP) 41)
      have N12 := NatAt.new (w8.alloc (.cells (natC 0 zP) 41)) 0 zP
      simp only [World.size_alloc] at N12
      have HS10 := hideT' (And.intro hS1 hS0)
      have HS7 := hideT' hs7'
      clear hs7' D7 M7 A77 A67 hN97 hN7 K7 hW8 hS1 hS0
      go_wp2_with (first | (refine store_nat rfl (.tmp 11) _ rfl rfl w8.heap.size j1 s1 rfl rfl 0 zP N11 zP_len m1 ?_; intro w9 hN9 hg9 hs9; have N129 := N12.grown hg9 (by simp)) | (refine store_nat rfl (.tmp 12) _ rfl rfl (w8.heap.size + 1) j0 s0 rfl rfl 0 zP N129 zP_len m0 ?_; intro w10 hN10 hg10 hs10))
      have Four0 : Four (w.heap.size + 1 + 1) w5.heap.size (w5.heap.size + 1) w8.heap.size (w8.heap.size + 1) i1 i0 j1 j0 r1 r0 s1 s0 bm (CL bl bd bm) w10 :=
        ⟨(((A78.old (.cells (natC 0 zP) 41)).old (.cells (natC 0 zP) 41)).grown hg9 (by simp; omega)).grown hg10 (by simp; omega), (((N98.old (.cells (natC 0 zP) 41)).old (.cells (natC 0 zP) 41)).grown hg9 (by simp; omega)).grown hg10 (by simp; omega),
         (((N108.old (.cells (natC 0 zP) 41)).old (.cells (natC 0 zP) 41)).grown hg9 (by simp; omega)).grown hg10 (by simp; omega),
         hN9.grown hg10 (by simp), hN10, ((RowAt.old (RowAt.old M8 (.cells (natC 0 zP) 41)) (.cells (natC 0 zP) 41)).grown hg9 (by simp; omega)).grown hg10 (by simp; omega)⟩
      have D10 := ((RowAt.old (RowAt.old D8 (.cells (natC 0 zP) 41)) (.cells (natC 0 zP) 41)).grown hg9 (by simp; omega)).grown hg10 (by simp; omega)
      have K10 : Kp bd w w10 := (((K8.alloc (.cells (natC 0 zP) 41)).alloc (.cells (natC 0 zP) 41)).own hg9 (.inl (by omega))).own hg10 (.inl (by omega))
      have hs10' : w10.heap.size = w8.heap.size + 1 + 1 := by rw [hs10, hs9]; simp
      clear D8 M8 A78 N98 N108 N11 N12 N129 hN9 hg9 hs9 hN10 hg10 hs10 K8
      have hi1 : i1 ≤ 100 := HR10.out.1.fits.2 (Nat.lt_of_le_of_lt (Nat.div_le_self _ _) HP.out.2.2.1.1)
      have hi0 : i0 ≤ 100 := HR10.out.2.fits.2 (Nat.lt_of_le_of_lt (Nat.mod_le _ _) HP.out.2.2.1.1)
      have hj1 : j1 ≤ 100 := HS10.out.1.fits.2 (Nat.lt_of_le_of_lt (Nat.div_le_self _ _) HP.out.2.2.1.2.1)
      have hj0 : j0 ≤ 100 := HS10.out.2.fits.2 (Nat.lt_of_le_of_lt (Nat.mod_le _ _) HP.out.2.2.1.2.1)
      have HLT : Hid (A / 10 ^ m + B / 10 ^ m < N ∧ A % 10 ^ m + B % 10 ^ m < N ∧ (A / 10 ^ m + A % 10 ^ m) + (B / 10 ^ m + B % 10 ^ m) < N) := sum3 (halves_lt HLn.out.1 HLn.out.2 (by have := HBig.out; omega) HM.out) HN.out
      go_wp2_with fail
      have g7 : w.heap.size + 1 + 1 ≠ bd := by omega
      have g9 : w5.heap.size ≠ bd := by omega
      have g10 : w5.heap.size + 1 ≠ bd := by omega
      have g11 : w8.heap.size ≠ bd := by omega
      have g12 : w8.heap.size + 1 ≠ bd := by omega
      have hdz : bd < w10.heap.size := by omega
      obtain ⟨z, hzz⟩ : ∃ z, z = w10.heap.size := ⟨_, rfl⟩
      obtain ⟨SF, hSF⟩ : ∃ SF : World → Prop, SF = Four (w.heap.size + 1 + 1) w5.heap.size (w5.heap.size + 1) w8.heap.size (w8.heap.size + 1) i1 i0 j1 j0 r1 r0 s1 s0 bm (CL bl bd bm) := ⟨_, rfl⟩
      have S7 : ∀ w', SF w' → NatAt w' (w.heap.size + 1 + 1) 0 zP := fun w' h => by rw [hSF] at h; exact h.h7
      have S9 : ∀ w', SF w' → NatAt w' w5.heap.size i1 r1 := fun w' h => by rw [hSF] at h; exact h.h9
      have S10 : ∀ w', SF w' → NatAt w' (w5.heap.size + 1) i0 r0 := fun w' h => by rw [hSF] at h; exact h.h10
      have S11 : ∀ w', SF w' → NatAt w' w8.heap.size j1 s1 := fun w' h => by rw [hSF] at h; exact h.h11
      have S12 : ∀ w', SF w' → NatAt w' (w8.heap.size + 1) j0 s0 := fun w' h => by rw [hSF] at h; exact h.h12
      have Sm : ∀ w', SF w' → RowAt w' bm 44 #[CL bl bd bm] := fun w' h => by rw [hSF] at h; exact h.hm
      have Skp : ∀ w' w'', SF w' → Kp bd w' w'' → SF w'' := fun w' w'' h K => by rw [hSF] at h ⊢; exact h.kp K g7 g9 g10 g11 g12 hmd
      have Sown : ∀ w' w'' (b : Nat), SF w' → w'.grownBy w'' (some b) → z ≤ b → SF w'' := fun w' w'' b h hg hb => by
        rw [hSF] at h ⊢
        exact ⟨h.h7.grown hg (by simp; omega), h.h9.grown hg (by simp; omega), h.h10.grown hg (by simp; omega), h.h11.grown hg (by simp; omega), h.h12.grown hg (by simp; omega), h.hm.grown hg (by simp; omega)⟩
      have Jst : ∀ (y y' : Int) w' w'', J7 bd w z SF y w' → Kp bd w' w'' → RowAt w'' bd 3 #[.int .i64 y'] → J7 bd w z SF y' w'' := fun y y' w' w'' h K hd => ⟨h.kp.trans K, hd, Skp _ _ h.s K, Nat.le_trans h.z K.size⟩
      have Jal : ∀ (y : Int) w', J7 bd w z SF y w' → J7 bd w z SF y (w'.alloc (.cells (natC 0 zP) 41)) := fun y w' h => Jst y y w' _ h (Kp.alloc (Kp.refl _ _) _) (h.d.old _)
      have JS : ∀ (y : Int) w', J7 bd w z SF y w' → SF w' := fun _ _ h => h.s
      have Jz : ∀ (y : Int) w', J7 bd w z SF y w' → z ≤ w'.heap.size := fun _ _ h => h.z
      have JH : ∀ (y : Int) w', J7 bd w z SF y w' → HalAt N0 bl bd bm l y w' := fun y w' h => HP.out.2.2.2.keep h.kp h.d
      have Jp : ∀ (y y' : Int) w' w'', J7 bd w z SF y w' → Kp bd w' w'' → ∀ p, RowAt w' p 41 (natC 0 zP) → z ≤ p → RowAt w'' p 41 (natC 0 zP) := fun _ _ _ _ _ K p hp hb => hp.kp K (by omega)
      have J0 : J7 bd w z SF x w10.drew := ⟨K10.drew, D10, by rw [hSF]; exact ⟨Four0.h7, Four0.h9, Four0.h10, Four0.h11, Four0.h12, Four0.hm⟩, by rw [hzz]; exact Nat.le_refl _⟩
      have HZ : Hid (z = w10.heap.size) := hzz
      have hwz : w.heap.size + 1 + 1 < z := by omega
      have hdz0 : bd < z := by omega
      clear Four0 D10 K10 hSF
      refine float3_begin SF 16 17 18 13 14 15 41 (natC 0 zP) z (J7 bd w z SF x) 19 (by kernel_rfl) rfl J0 ?_
      clear J0
      refine float3_val 0 49 rfl rfl (by kernel_rfl) (by kernel_rfl) noPanic_put (fun _ => rfl) ⟨by decide, by decide, by decide⟩ ⟨by decide, by decide, by decide⟩ (CL bl bd bm) (fun a' w' ag h => BL.run_cell1 (.tmp 4) 44 rfl ⟨bm, 0, none⟩ ((ag 4 (by decide) (by decide) (by decide)).trans rfl) _ Tryd.underlying44 rfl (cell0 (Sm w' h))) (JS _) ?_
      simp only [Act.put, List.setIfInBounds_toArray, List.set_cons_zero, List.set_cons_succ]
      refine float3_val 1 50 rfl rfl (by kernel_rfl) (by kernel_rfl) noPanic_put (fun _ => rfl) ⟨by decide, by decide, by decide⟩ ⟨by decide, by decide, by decide⟩ (.agg (natC i1 r1)) (fun a' w' ag h => run_nat0 (.tmp 9) rfl (w5.heap.size) ((ag 9 (by decide) (by decide) (by decide)).trans rfl) i1 r1 l1 (S9 w' h)) (JS _) ?_
      simp only [Act.put, List.setIfInBounds_toArray, List.set_cons_zero, List.set_cons_succ]
      refine float3_val 2 51 rfl rfl (by kernel_rfl) (by kernel_rfl) noPanic_put (fun _ => rfl) ⟨by decide, by decide, by decide⟩ ⟨by decide, by decide, by decide⟩ (.agg (natC j1 s1)) (fun a' w' ag h => run_nat0 (.tmp 11) rfl (w8.heap.size) ((ag 11 (by decide) (by decide) (by decide)).trans rfl) j1 s1 m1 (S11 w' h)) (JS _) ?_
      simp only [Act.put, List.setIfInBounds_toArray, List.set_cons_zero, List.set_cons_succ]
      refine float3_val 4 53 rfl rfl (by kernel_rfl) (by kernel_rfl) noPanic_put (fun _ => rfl) ⟨by decide, by decide, by decide⟩ ⟨by decide, by decide, by decide⟩ (CL bl bd bm) (fun a' w' ag h => BL.run_cell1 (.tmp 4) 44 rfl ⟨bm, 0, none⟩ ((ag 4 (by decide) (by decide) (by decide)).trans rfl) _ Tryd.underlying44 rfl (cell0 (Sm w' h))) (JS _) ?_
      simp only [Act.put, List.setIfInBounds_toArray, List.set_cons_zero, List.set_cons_succ]
      refine float3_val 5 54 rfl rfl (by kernel_rfl) (by kernel_rfl) noPanic_put (fun _ => rfl) ⟨by decide, by decide, by decide⟩ ⟨by decide, by decide, by decide⟩ (.agg (natC i0 r0)) (fun a' w' ag h => run_nat0 (.tmp 10) rfl (w5.heap.size + 1) ((ag 10 (by decide) (by decide) (by decide)).trans rfl) i0 r0 l0 (S10 w' h)) (JS _) ?_
      simp only [Act.put, List.setIfInBounds_toArray, List.set_cons_zero, List.set_cons_succ]
      refine float3_val 6 55 rfl rfl (by kernel_rfl) (by kernel_rfl) noPanic_put (fun _ => rfl) ⟨by decide, by decide, by decide⟩ ⟨by decide, by decide, by decide⟩ (.agg (natC j0 s0)) (fun a' w' ag h => run_nat0 (.tmp 12) rfl (w8.heap.size + 1) ((ag 12 (by decide) (by decide) (by decide)).trans rfl) j0 s0 m0 (S12 w' h)) (JS _) ?_
      simp only [Act.put, List.setIfInBounds_toArray, List.set_cons_zero, List.set_cons_succ]
      refine float3_val 8 57 rfl rfl (by kernel_rfl) (by kernel_rfl) noPanic_put (fun _ => rfl) ⟨by decide, by decide, by decide⟩ ⟨by decide, by decide, by decide⟩ (CL bl bd bm) (fun a' w' ag h => BL.run_cell1 (.tmp 4) 44 rfl ⟨bm, 0, none⟩ ((ag 4 (by decide) (by decide) (by decide)).trans rfl) _ Tryd.underlying44 rfl (cell0 (Sm w' h))) (JS _) ?_
      simp only [Act.put, List.setIfInBounds_toArray, List.set_cons_zero, List.set_cons_succ]
      refine float3_val 9 58 rfl rfl (by kernel_rfl) (by kernel_rfl) noPanic_put (fun _ => rfl) ⟨by decide, by decide, by decide⟩ ⟨by decide, by decide, by decide⟩ (.agg (natC i1 r1)) (fun a' w' ag h => run_nat0 (.tmp 9) rfl (w5.heap.size) ((ag 9 (by decide) (by decide) (by decide)).trans rfl) i1 r1 l1 (S9 w' h)) (JS _) ?_
      simp only [Act.put, List.setIfInBounds_toArray, List.set_cons_zero, List.set_cons_succ]
      refine float3_val 10 59 rfl rfl (by kernel_rfl) (by kernel_rfl) noPanic_put (fun _ => rfl) ⟨by decide, by decide, by decide⟩ ⟨by decide, by decide, by decide⟩ (.agg (natC i0 r0)) (fun a' w' ag h => run_nat0 (.tmp 10) rfl (w5.heap.size + 1) ((ag 10 (by decide) (by decide) (by decide)).trans rfl) i0 r0 l0 (S10 w' h)) (JS _) ?_
      simp only [Act.put, List.setIfInBounds_toArray, List.set_cons_zero, List.set_cons_succ]
      refine float3_val 12 61 rfl rfl (by kernel_rfl) (by kernel_rfl) noPanic_put (fun _ => rfl) ⟨by decide, by decide, by decide⟩ ⟨by decide, by decide, by decide⟩ (.agg (natC j1 s1)) (fun a' w' ag h => run_nat0 (.tmp 11) rfl (w8.heap.size) ((ag 11 (by decide) (by decide) (by decide)).trans rfl) j1 s1 m1 (S11 w' h)) (JS _) ?_
      simp only [Act.put, List.setIfInBounds_toArray, List.set_cons_zero, List.set_cons_succ]
      refine float3_val 13 62 rfl rfl (by kernel_rfl) (by kernel_rfl) noPanic_put (fun _ => rfl) ⟨by decide, by decide, by decide⟩ ⟨by decide, by decide, by decide⟩ (.agg (natC j0 s0)) (fun a' w' ag h => run_nat0 (.tmp 12) rfl (w8.heap.size + 1) ((ag 12 (by decide) (by decide) (by decide)).trans rfl) j0 s0 m0 (S12 w' h)) (JS _) ?_
      simp only [Act.put, List.setIfInBounds_toArray, List.set_cons_zero, List.set_cons_succ]
      refine float3_call ⟨by decide, by decide, by decide, by decide, by decide, by decide, ⟨_, rfl, rfl, rfl, fun _ => rfl⟩, ⟨_, rfl, rfl, rfl, fun _ => rfl⟩, ⟨_, rfl, rfl, rfl, fun _ => rfl⟩, hz⟩ 3 52 rfl rfl (fun _ => rfl) (by kernel_rfl) ⟨by decide, by decide, by decide⟩ ⟨by decide, by decide, by decide⟩ (Jal _) (JS _) (Jz _) 13 #[.agg (natC i1 r1), .agg (natC j1 s1), .pointer (some ⟨bl, 0, none⟩), .pointer (some ⟨bd, 0, none⟩), .pointer (some ⟨bm, 0, none⟩)] (fun a' w' ag _ => run_call_fn enters_hal rfl ((ag 49 (by decide) (by decide) (by decide)).trans rfl) ((ag 50 (by decide) (by decide) (by decide)).trans rfl) ((ag 51 (by decide) (by decide) (by decide)).trans rfl)) (fun w' => MulAns bd l (A / 10 ^ m) (B / 10 ^ m) (x) w') (fun w' h => HIH.out _ HLT.out.1 _ _ _ _ _ _ _ w' rfl HR10.out.1 HS10.out.1 (HP.out.2.2.1.sub (Nat.div_le_self _ _) (Nat.div_le_self _ _)) (JH _ _ h)) ?_
      rintro w' e w'' hJ ⟨i2, r2, c2, rfl, hQ2, hC2, hd, hK⟩
      refine ⟨_, J7 bd w z SF (IntKind.i64.wrap (x + (c2 : Int))), rfl, Jst _ _ _ _ hJ hK hd, Skp _ _ hJ.s hK, Jp _ x _ _ hJ hK, ?_⟩
      clear hJ hd hK
      have q2 := hQ2.len
      simp only [Act.put, List.setIfInBounds_toArray, List.set_cons_zero, List.set_cons_succ]
      refine float3_call ⟨by decide, by decide, by decide, by decide, by decide, by decide, ⟨_, rfl, rfl, rfl, fun _ => rfl⟩, ⟨_, rfl, rfl, rfl, fun _ => rfl⟩, ⟨_, rfl, rfl, rfl, fun _ => rfl⟩, hz⟩ 7 56 rfl rfl (fun _ => rfl) (by kernel_rfl) ⟨by decide, by decide, by decide⟩ ⟨by decide, by decide, by decide⟩ (Jal _) (JS _) (Jz _) 13 #[.agg (natC i0 r0), .agg (natC j0 s0), .pointer (some ⟨bl, 0, none⟩), .pointer (some ⟨bd, 0, none⟩), .pointer (some ⟨bm, 0, none⟩)] (fun a' w' ag _ => run_call_fn enters_hal rfl ((ag 53 (by decide) (by decide) (by decide)).trans rfl) ((ag 54 (by decide) (by decide) (by decide)).trans rfl) ((ag 55 (by decide) (by decide) (by decide)).trans rfl)) (fun w' => MulAns bd l (A % 10 ^ m) (B % 10 ^ m) (IntKind.i64.wrap (x + (c2 : Int))) w') (fun w' h => HIH.out _ HLT.out.2.1 _ _ _ _ _ _ _ w' rfl HR10.out.2 HS10.out.2 (HP.out.2.2.1.sub (Nat.mod_le _ _) (Nat.mod_le _ _)) (JH _ _ h)) ?_
      rintro w' e w'' hJ ⟨i3, r3, c3, rfl, hQ3, hC3, hd, hK⟩
      refine ⟨_, J7 bd w z SF (IntKind.i64.wrap (IntKind.i64.wrap (x + (c2 : Int)) + (c3 : Int))), rfl, Jst _ _ _ _ hJ hK hd, Skp _ _ hJ.s hK, Jp _ x _ _ hJ hK, ?_⟩
      clear hJ hd hK
      have q3 := hQ3.len
      simp only [Act.put, List.setIfInBounds_toArray, List.set_cons_zero, List.set_cons_succ]
      refine float3_call ⟨by decide, by decide, by decide, by decide, by decide, by decide, ⟨_, rfl, rfl, rfl, fun _ => rfl⟩, ⟨_, rfl, rfl, rfl, fun _ => rfl⟩, ⟨_, rfl, rfl, rfl, fun _ => rfl⟩, hz⟩ 11 60 rfl rfl (fun _ => rfl) (by kernel_rfl) ⟨by decide, by decide, by decide⟩ ⟨by decide, by decide, by decide⟩ (Jal _) (JS _) (Jz _) 17 #[.agg (natC i1 r1), .agg (natC i0 r0)] (fun a' w' ag _ => run_call_2 enters_plus rfl ((ag 58 (by decide) (by decide) (by decide)).trans rfl) ((ag 59 (by decide) (by decide) (by decide)).trans rfl)) (fun w' e w'' => ∃ (i : Nat) (r : List Int), e = .returned (.agg (natC i r)) ∧ Rep (A / 10 ^ m + A % 10 ^ m) i r ∧ Below w'.heap.size w' w'') (fun w' _ => plus_any w' HR10.out.1 HR10.out.2 hi1 hi0) ?_
      rintro w' e w'' hJ ⟨i4, r4, rfl, hQ4, hW⟩
      refine ⟨_, J7 bd w z SF (IntKind.i64.wrap (IntKind.i64.wrap (x + (c2 : Int)) + (c3 : Int))), rfl, Jst _ _ _ _ hJ (Kp.below hW (Nat.le_refl _)) (hJ.d.below hW hJ.d.lt), Skp _ _ hJ.s (Kp.below hW (Nat.le_refl _)), Jp _ x _ _ hJ (Kp.below hW (Nat.le_refl _)), ?_⟩
      clear hJ hW
      have q4 := hQ4.len
      simp only [Act.put, List.setIfInBounds_toArray, List.set_cons_zero, List.set_cons_succ]
      refine float3_call ⟨by decide, by decide, by decide, by decide, by decide, by decide, ⟨_, rfl, rfl, rfl, fun _ => rfl⟩, ⟨_, rfl, rfl, rfl, fun _ => rfl⟩, ⟨_, rfl, rfl, rfl, fun _ => rfl⟩, hz⟩ 14 63 rfl rfl (fun _ => rfl) (by kernel_rfl) ⟨by decide, by decide, by decide⟩ ⟨by decide, by decide, by decide⟩ (Jal _) (JS _) (Jz _) 17 #[.agg (natC j1 s1), .agg (natC j0 s0)] (fun a' w' ag _ => run_call_2 enters_plus rfl ((ag 61 (by decide) (by decide) (by decide)).trans rfl) ((ag 62 (by decide) (by decide) (by decide)).trans rfl)) (fun w' e w'' => ∃ (i : Nat) (r : List Int), e = .returned (.agg (natC i r)) ∧ Rep (B / 10 ^ m + B % 10 ^ m) i r ∧ Below w'.heap.size w' w'') (fun w' _ => plus_any w' HS10.out.1 HS10.out.2 hj1 hj0) ?_
      rintro w' e w'' hJ ⟨i5, r5, rfl, hQ5, hW⟩
      refine ⟨_, J7 bd w z SF (IntKind.i64.wrap (IntKind.i64.wrap (x + (c2 : Int)) + (c3 : Int))), rfl, Jst _ _ _ _ hJ (Kp.below hW (Nat.le_refl _)) (hJ.d.below hW hJ.d.lt), Skp _ _ hJ.s (Kp.below hW (Nat.le_refl _)), Jp _ x _ _ hJ (Kp.below hW (Nat.le_refl _)), ?_⟩
      clear hJ hW
      have q5 := hQ5.len
      simp only [Act.put, List.setIfInBounds_toArray, List.set_cons_zero, List.set_cons_succ]
      refine float3_call ⟨by decide, by decide, by decide, by decide, by decide, by decide, ⟨_, rfl, rfl, rfl, fun _ => rfl⟩, ⟨_, rfl, rfl, rfl, fun _ => rfl⟩, ⟨_, rfl, rfl, rfl, fun _ => rfl⟩, hz⟩ 15 64 rfl rfl (fun _ => rfl) (by kernel_rfl) ⟨by decide, by decide, by decide⟩ ⟨by decide, by decide, by decide⟩ (Jal _) (JS _) (Jz _) 13 #[.agg (natC i4 r4), .agg (natC i5 r5), .pointer (some ⟨bl, 0, none⟩), .pointer (some ⟨bd, 0, none⟩), .pointer (some ⟨bm, 0, none⟩)] (fun a' w' ag _ => run_call_fn enters_hal rfl ((ag 57 (by decide) (by decide) (by decide)).trans rfl) ((ag 60 (by decide) (by decide) (by decide)).trans rfl) ((ag 63 (by decide) (by decide) (by decide)).trans rfl)) (fun w' => MulAns bd l (A / 10 ^ m + A % 10 ^ m) (B / 10 ^ m + B % 10 ^ m) (IntKind.i64.wrap (IntKind.i64.wrap (x + (c2 : Int)) + (c3 : Int))) w') (fun w' h => HIH.out _ HLT.out.2.2 _ _ _ _ _ _ _ w' rfl hQ4 hQ5 (HP.out.2.2.1.sub (cut_le _ _) (cut_le _ _)) (JH _ _ h)) ?_
      rintro w' e w'' hJ ⟨i6, r6, c6, rfl, hQ6, hC6, hd, hK⟩
      refine ⟨_, J7 bd w z SF (IntKind.i64.wrap (IntKind.i64.wrap (IntKind.i64.wrap (x + (c2 : Int)) + (c3 : Int)) + (c6 : Int))), rfl, Jst _ _ _ _ hJ hK hd, Skp _ _ hJ.s hK, Jp _ x _ _ hJ hK, ?_⟩
      clear hJ hd hK
      have q6 := hQ6.len
      simp only [Act.put, List.setIfInBounds_toArray, List.set_cons_zero, List.set_cons_succ]
      refine float3_end ⟨by decide, by decide, by decide, by decide, by decide, by decide, ⟨_, rfl, rfl, rfl, fun _ => rfl⟩, ⟨_, rfl, rfl, rfl, fun _ => rfl⟩, ⟨_, rfl, rfl, rfl, fun _ => rfl⟩, hz⟩ (by kernel_rfl) (Jal _) (JS _) (Jz _) ?_
      intro w11 b13 b14 b15 hJ h13 h14 h15 z13 z14 z15 n34 n35 n45
      simp only [Act.put, List.setIfInBounds_toArray, List.set_cons_zero, List.set_cons_succ]
      refine held_store 19 (by kernel_rfl) rfl rfl _ _ rfl rfl b13 i2 r2 rfl rfl 0 zP h13 zP_len q2 ?_
      intro w12 N13 hg12 hs12
      refine ⟨Sown _ _ _ hJ.s hg12 z13, ?_⟩
      refine held_store 20 (by kernel_rfl) rfl rfl _ _ rfl rfl b14 i3 r3 rfl rfl 0 zP (NatAt.grown h14 hg12 (by simp; omega)) zP_len q3 ?_
      intro w13 N14 hg13 hs13
      refine ⟨Sown _ _ _ (Sown _ _ _ hJ.s hg12 z13) hg13 z14, ?_⟩
      refine held_store 21 (by kernel_rfl) rfl rfl _ _ rfl rfl b15 i6 r6 rfl rfl 0 zP (NatAt.grown (NatAt.grown h15 hg12 (by simp; omega)) hg13 (by simp; omega)) zP_len q6 ?_
      intro w14 N15 hg14 hs14
      refine ⟨Sown _ _ _ (Sown _ _ _ (Sown _ _ _ hJ.s hg12 z13) hg13 z14) hg14 z15, ?_⟩
      refine wpAnyH_done (by kernel_rfl) ?_ _
      refine NoPanic.normal ?_
      have K14 : Kp bd w w14 := ((hJ.kp.own hg12 (.inl (by omega))).own hg13 (.inl (by omega))).own hg14 (.inl (by omega))
      have D14 := ((hJ.d.grown hg12 (by simp; omega)).grown hg13 (by simp; omega)).grown hg14 (by simp; omega)
      have P13 : NatAt w14 b13 i2 r2 := (N13.grown hg13 (by simp; omega)).grown hg14 (by simp; omega)
      have P14 : NatAt w14 b14 i3 r3 := N14.grown hg14 (by simp; omega)
      have P7 : NatAt w14 (w.heap.size + 1 + 1) 0 zP := S7 _ (Sown _ _ _ (Sown _ _ _ (Sown _ _ _ hJ.s hg12 z13) hg13 z14) hg14 z15)
      have HQ := hideT' (And.intro hQ2 (And.intro hQ3 hQ6))
      have HC := hideT' (And.intro hC2 (And.intro hC3 hC6))
      clear S7 S9 S10 S11 S12 Sm Skp Sown Jst Jal JS Jz JH Jp hJ h13 h14 h15 N13 N14 hg12 hg13 hg14 hs12 hs13 hs14 hQ2 hQ3 hQ6 hC2 hC3 hC6 hQ4 hQ5 SF HZ hzz hs10' hz8 hz5 g7 g9 g10 g11 g12 hi1 hi0 hj1 hj0
      obtain ⟨y, hy⟩ : ∃ y, y = IntKind.i64.wrap (IntKind.i64.wrap (IntKind.i64.wrap (x + (c2 : Int)) + (c3 : Int)) + (c6 : Int)) := ⟨_, rfl⟩
      rw [← hy] at D14
      have HY := hideT' hy
      clear hy
      have hkA := cut_le A m
      have hkB := cut_le B m
      have hAB := HP.out.2.2.1.2.2
      obtain ⟨ka1, ka2, ka3⟩ := kara (A / 10 ^ m) (A % 10 ^ m) (B / 10 ^ m) (B % 10 ^ m)
      have hle1 : (A / 10 ^ m + A % 10 ^ m) * (B / 10 ^ m + B % 10 ^ m) ≤ A * B := Nat.mul_le_mul hkA hkB
      have hka := kara_all A B m
      have HKA : Hid ((A / 10 ^ m) * (B / 10 ^ m) + (A % 10 ^ m) * (B % 10 ^ m) ≤ (A / 10 ^ m + A % 10 ^ m) * (B / 10 ^ m + B % 10 ^ m) ∧ (A / 10 ^ m + A % 10 ^ m) * (B / 10 ^ m + B % 10 ^ m) - ((A / 10 ^ m) * (B / 10 ^ m) + (A % 10 ^ m) * (B % 10 ^ m)) = (A / 10 ^ m) * (B % 10 ^ m) + (A % 10 ^ m) * (B / 10 ^ m)) := by
        unfold Hid
        omega
      have HKL := hideT' hka
      have hb2 : i2 ≤ 101 := HQ.out.1.cnt0 (Nat.lt_of_le_of_lt (Nat.mul_le_mul (Nat.div_le_self _ _) (Nat.div_le_self _ _)) hAB) 101 (by decide)
      have hb3 : i3 ≤ 101 := HQ.out.2.1.cnt0 (Nat.lt_of_le_of_lt (Nat.mul_le_mul (Nat.mod_le _ _) (Nat.mod_le _ _)) hAB) 101 (by decide)
      have hb6 : i6 ≤ 101 := HQ.out.2.2.cnt0 (Nat.lt_of_le_of_lt hle1 hAB) 101 (by decide)
      have HAB := hideT' (And.intro hAB hle1)
      clear hkA hkB hAB ka1 ka2 ka3 hle1 hka
      go_wp2_with fail
      have hl13 := P13.lt
      have hl14 := P14.lt
      have hl15 := N15.lt
      refine float_begin (fun w' => NatAt w' b13 i2 r2 ∧ NatAt w' b14 i3 r3 ∧ NatAt w' b15 i6 r6) 8 16 41 (natC 0 zP) w14.heap.size 10 (by kernel_rfl) rfl ?_
      have hS : NatAt w14.drew b13 i2 r2 ∧ NatAt w14.drew b14 i3 r3 ∧ NatAt w14.drew b15 i6 r6 := ⟨P13, P14, N15⟩
      have FS : ∀ w', Below w14.drew.heap.size w14.drew w' → NatAt w' b13 i2 r2 ∧ NatAt w' b14 i3 r3 ∧ NatAt w' b15 i6 r6 := fun w' h => ⟨hS.1.below h hl13, hS.2.1.below h hl14, hS.2.2.below h hl15⟩
      refine float_val 0 66 rfl rfl (by kernel_rfl) (by kernel_rfl) (by kernel_rfl) (by kernel_rfl) (by kernel_rfl) noPanic_put (fun _ => rfl) (by decide) (by decide) (.agg (natC i6 r6)) (fun _ h => run_nat0 (.tmp 15) rfl b15 rfl i6 r6 q6 h.2.2) (fun _ => fun _ h => run_nat0 (.tmp 15) rfl b15 rfl i6 r6 q6 h.2.2) FS ?_
      simp only [Act.put, List.setIfInBounds_toArray, List.set_cons_zero, List.set_cons_succ]
      refine float_val 1 67 rfl rfl (by kernel_rfl) (by kernel_rfl) (by kernel_rfl) (by kernel_rfl) (by kernel_rfl) noPanic_put (fun _ => rfl) (by decide) (by decide) (.agg (natC i2 r2)) (fun _ h => run_nat0 (.tmp 13) rfl b13 rfl i2 r2 q2 h.1) (fun _ => fun _ h => run_nat0 (.tmp 13) rfl b13 rfl i2 r2 q2 h.1) FS ?_
      simp only [Act.put, List.setIfInBounds_toArray, List.set_cons_zero, List.set_cons_succ]
      refine float_val 2 68 rfl rfl (by kernel_rfl) (by kernel_rfl) (by kernel_rfl) (by kernel_rfl) (by kernel_rfl) noPanic_put (fun _ => rfl) (by decide) (by decide) (.agg (natC i3 r3)) (fun _ h => run_nat0 (.tmp 14) rfl b14 rfl i3 r3 q3 h.2.1) (fun _ => fun _ h => run_nat0 (.tmp 14) rfl b14 rfl i3 r3 q3 h.2.1) FS ?_
      simp only [Act.put, List.setIfInBounds_toArray, List.set_cons_zero, List.set_cons_succ]
      refine float_call 3 69 rfl rfl rfl rfl rfl (fun _ => rfl) (fun _ => rfl) (by kernel_rfl) (by kernel_rfl) (by decide) (by decide) hz (Nat.le_refl _) 17 #[.agg (natC i2 r2), .agg (natC i3 r3)] (fun _ => run_call_2 enters_plus rfl rfl rfl) (fun _ _ => run_call_2 enters_plus rfl rfl rfl) FS _ (fun w' _ => plus_wide w' HQ.out.1 HQ.out.2.1 (by omega) (by omega)) ?_
      rintro w' e w15 hW0 ⟨i7, r7, rfl, hQ7, hW15'⟩
      have q7 := hQ7.len
      have hW15 : Below w14.drew.heap.size w14.drew w15 := hW0.trans (hW15'.mono hW0.size)
      have hb7 : i7 ≤ 101 := hQ7.cnt0 (Nat.lt_of_le_of_lt (Nat.le_trans HKA.out.1 HAB.out.2) HAB.out.1) 101 (by decide)
      have FS2 : ∀ w', Below w15.heap.size w15 w' → NatAt w' b13 i2 r2 ∧ NatAt w' b14 i3 r3 ∧ NatAt w' b15 i6 r6 := fun w' h => FS _ (hW15.trans (h.mono hW15.size))
      refine ⟨_, rfl, hW15', ?_⟩
      clear hW0 hW15'
      simp only [Act.put, List.setIfInBounds_toArray, List.set_cons_zero, List.set_cons_succ]
      refine float_call 4 70 rfl rfl rfl rfl rfl (fun _ => rfl) (fun _ => rfl) (by kernel_rfl) (by kernel_rfl) (by decide) (by decide) hz hW15.size 18 #[.agg (natC i6 r6), .agg (natC i7 r7), .int .i64 1, .int .i64 0] (fun _ => by go_simp) (fun _ _ => by go_simp) FS2 _ (fun w' _ => minus_any 1 0 w' HQ.out.2.2 hQ7 (by omega) (by omega) (by omega) (by omega)) ?_
      intro w' e w16 hW0 hcase
      obtain ⟨i8, r8, rfl, hQ8, hW16'⟩ : ∃ (i8 : Nat) (r8 : List Int), e = .returned (.tuple #[.agg (natC i8 r8), .bool true]) ∧ Rep ((A / 10 ^ m) * (B % 10 ^ m) + (A % 10 ^ m) * (B / 10 ^ m)) i8 r8 ∧ Below w'.heap.size w' w16 := by
        have hka := HKA.out
        rcases hcase with ⟨i8, r8, X, h1, h2, h3, h4⟩ | ⟨_, h2, _⟩
        · refine ⟨i8, r8, h1, ?_, h4⟩
          simp only [Int.pow_zero, Int.one_mul] at h3
          have e : X = (A / 10 ^ m) * (B % 10 ^ m) + (A % 10 ^ m) * (B / 10 ^ m) := by rw [← hka.2]; omega
          rw [← e]; exact h2
        · simp only [Int.pow_zero, Int.one_mul] at h2
          omega
      have q8 := hQ8.len
      have HQ8 := hideT' hQ8
      have hW16 : Below w14.drew.heap.size w14.drew w16 := hW15.trans ((hW0.trans (hW16'.mono hW0.size)).mono hW15.size)
      have FS3 : ∀ w', Below w16.heap.size w16 w' → NatAt w' b13 i2 r2 ∧ NatAt w' b14 i3 r3 ∧ NatAt w' b15 i6 r6 := fun w' h => FS _ (hW16.trans (h.mono hW16.size))
      refine ⟨_, rfl, hW16', ?_⟩
      clear hcase hW0 hW16' hQ8 FS2 hQ7
      simp only [Act.put, List.setIfInBounds_toArray, List.set_cons_zero, List.set_cons_succ]
      refine float_val 5 65 rfl rfl (by kernel_rfl) (by kernel_rfl) (by kernel_rfl) (by kernel_rfl) (by kernel_rfl) noPanic_put (fun _ => rfl) (by decide) (by decide) (.tuple #[.agg (natC i8 r8), .bool true]) (fun _ h => rfl) (fun _ => fun _ h => rfl) FS3 ?_
      simp only [Act.put, List.setIfInBounds_toArray, List.set_cons_zero, List.set_cons_succ]
      refine float_val 6 71 rfl rfl (by kernel_rfl) (by kernel_rfl) (by kernel_rfl) (by kernel_rfl) (by kernel_rfl) noPanic_put (fun _ => rfl) (by decide) (by decide) (.agg (natC i8 r8)) (fun _ h => by go_simp) (fun _ => fun _ h => by go_simp) FS3 ?_
      simp only [Act.put, List.setIfInBounds_toArray, List.set_cons_zero, List.set_cons_succ]
      refine float_val 7 72 rfl rfl (by kernel_rfl) (by kernel_rfl) (by kernel_rfl) (by kernel_rfl) (by kernel_rfl) noPanic_put (fun _ => rfl) (by decide) (by decide) (.bool true) (fun _ h => by go_simp) (fun _ => fun _ h => by go_simp) FS3 ?_
      simp only [Act.put, List.setIfInBounds_toArray, List.set_cons_zero, List.set_cons_succ]
      have hz16 : w14.heap.size ≤ w16.heap.size := hW16.size
      refine float_end rfl rfl rfl (fun _ => rfl) (by kernel_rfl) hz hz16 FS3 ?_
      intro w17 b16 hW17 hR16 hb16
      have hSp := FS3 _ hW17
      have hW17' : Below w14.drew.heap.size w14.drew w17 := hW16.trans (hW17.mono hW16.size)
      have hz17 : w14.heap.size ≤ w17.heap.size := hW17'.size
      simp only [Act.put, List.setIfInBounds_toArray, List.set_cons_zero, List.set_cons_succ]
      refine held_store 9 (by kernel_rfl) rfl rfl _ _ rfl rfl b16 i8 r8 rfl rfl 0 zP hR16 zP_len q8 ?_
      intro w18 N16 hg18 hs18
      have hSq : NatAt w18 b13 i2 r2 ∧ NatAt w18 b14 i3 r3 ∧ NatAt w18 b15 i6 r6 := ⟨hSp.1.grown hg18 (by simp; omega), hSp.2.1.grown hg18 (by simp; omega), hSp.2.2.grown hg18 (by simp; omega)⟩
      refine ⟨hSq, ?_⟩
      refine held_assign 10 (some 17) (by kernel_rfl) rfl rfl _ rfl rfl _ rfl hSq ?_
      simp only [Act.put, List.setIfInBounds_toArray, List.set_cons_zero, List.set_cons_succ]
      refine wpAnyH_done (by kernel_rfl) ?_ _
      refine NoPanic.normal ?_
      have D17 : RowAt w17 bd 3 #[.int .i64 y] := RowAt.below (w := w14.drew) D14 hW17' D14.lt
      have P717 : NatAt w17 (w.heap.size + 1 + 1) 0 zP := NatAt.below (w := w14.drew) P7 hW17' P7.lt
      have D18 := D17.grown hg18 (by simp; omega)
      have P718 := P717.grown hg18 (by simp; omega)
      have K18 : Kp bd w w18 := (K14.drew.trans (Kp.below hW17' (Nat.le_refl _))).own hg18 (.inl (by have := K14.size; omega))
      have hl16 := N16.lt
      have hb8 : i8 ≤ 101 := HQ8.out.cnt0 (Nat.lt_of_le_of_lt (Nat.le_trans (by rw [← HKA.out.2]; exact Nat.sub_le _ _) HAB.out.2) HAB.out.1) 101 (by decide)
      have hS18 : NatAt w18 b13 i2 r2 ∧ NatAt w18 b14 i3 r3 ∧ NatAt w18 b16 i8 r8 := ⟨hSq.1, hSq.2.1, N16⟩
      have hw2m : IntKind.i64.wrap (2 * (m : Int)) = ((2 * m : Nat) : Int) := by rw [IntKind.wrap_i64]; omega
      have HCN : Hid (i2 + 2 * m / 6 + 4 ≤ 204) := by
        unfold Hid
        rcases Nat.eq_zero_or_pos i2 with h0 | h0
        · omega
        · have h1 := HQ.out.1.cnt (2 * m) 601 (Nat.lt_of_le_of_lt (by rw [← HKL.out, Nat.add_assoc]; exact Nat.le_add_right _ _) HAB.out.1) h0
          omega
      clear hS FS hW15 hW16 FS3 hW17 hR16 hSp hW17' hSq D17 P717 hg18 K14 D14 P13 P14 P7 N15 N16 hz16 hz17
      go_wp2_with fail
      refine held_begin (fun w' => NatAt w' b13 i2 r2 ∧ NatAt w' b14 i3 r3 ∧ NatAt w' b16 i8 r8) (by kernel_rfl) ?_
      have hS : NatAt w18.drew b13 i2 r2 ∧ NatAt w18.drew b14 i3 r3 ∧ NatAt w18.drew b16 i8 r8 := hS18
      have HB : ∀ w', Below w18.drew.heap.size w18.drew w' → NatAt w' b13 i2 r2 ∧ NatAt w' b14 i3 r3 ∧ NatAt w' b16 i8 r8 := fun w' h => ⟨hS.1.below h hS.1.lt, hS.2.1.below h hS.2.1.lt, hS.2.2.below h hS.2.2.lt⟩
      refine held_load 0 (some 73) rfl rfl (by kernel_rfl) (by kernel_rfl) (by kernel_rfl) noPanic_put rfl _ rfl (b13) rfl i2 r2 (fun _ h => h.1) q2 hS ?_
      simp only [Act.put, List.setIfInBounds_toArray, List.set_cons_zero, List.set_cons_succ]
      refine held_val 1 (some 74) rfl rfl (by kernel_rfl) (by kernel_rfl) (by kernel_rfl) noPanic_put rfl (.int .i64 (m : Int)) (fun _ => by go_simp) hS ?_
      simp only [Act.put, List.setIfInBounds_toArray, List.set_cons_zero, List.set_cons_succ]
      refine held_val 2 (some 75) rfl rfl (by kernel_rfl) (by kernel_rfl) (by kernel_rfl) noPanic_put rfl (.int .i64 ((2 * m : Nat) : Int)) (fun _ => by first | (go_simp; done) | (go_simp; omega)) hS ?_
      simp only [Act.put, List.setIfInBounds_toArray, List.set_cons_zero, List.set_cons_succ]
      refine held_load 4 (some 77) rfl rfl (by kernel_rfl) (by kernel_rfl) (by kernel_rfl) noPanic_put rfl _ rfl (b16) rfl i8 r8 (fun _ h => h.2.2) q8 hS ?_
      simp only [Act.put, List.setIfInBounds_toArray, List.set_cons_zero, List.set_cons_succ]
      refine held_val 5 (some 78) rfl rfl (by kernel_rfl) (by kernel_rfl) (by kernel_rfl) noPanic_put rfl (.int .i64 (m : Int)) (fun _ => by go_simp) hS ?_
      simp only [Act.put, List.setIfInBounds_toArray, List.set_cons_zero, List.set_cons_succ]
      refine held_load 8 (some 81) rfl rfl (by kernel_rfl) (by kernel_rfl) (by kernel_rfl) noPanic_put rfl _ rfl (b14) rfl i3 r3 (fun _ h => h.2.1) q3 hS ?_
      simp only [Act.put, List.setIfInBounds_toArray, List.set_cons_zero, List.set_cons_succ]
      refine held_call 3 (some 76) (by kernel_rfl) rfl rfl rfl 19 #[.agg (natC i2 r2), .int .i64 ((2 * m : Nat) : Int)] (by go_simp) _ (raised_any (2 * m) w18.drew HQ.out.1 HCN.out) ?_
      rintro e w19 ⟨ia, ra, rfl, hra, hW⟩
      have Bw19 : Below w18.drew.heap.size w18.drew w19 := hW
      have qra := hra.len
      have Hra := hideT' hra
      refine ⟨_, rfl, HB _ Bw19, ?_⟩
      clear hW hra
      simp only [Act.put, List.setIfInBounds_toArray, List.set_cons_zero, List.set_cons_succ]
      refine held_call 6 (some 79) (by kernel_rfl) rfl rfl rfl 19 #[.agg (natC i8 r8), .int .i64 (m : Int)] (by go_simp) _ (raised_any m w19 HQ8.out (by omega)) ?_
      rintro e w20 ⟨ib, rb, rfl, hrb, hW⟩
      have Bw20 : Below w18.drew.heap.size w18.drew w20 := Bw19.trans (hW.mono Bw19.size)
      have qrb := hrb.len
      have Hrb := hideT' hrb
      refine ⟨_, rfl, HB _ Bw20, ?_⟩
      clear hW hrb
      simp only [Act.put, List.setIfInBounds_toArray, List.set_cons_zero, List.set_cons_succ]
      have hia : ia ≤ 101 := Hra.out.cnt0 (Nat.lt_of_le_of_lt (by rw [← HKL.out, Nat.add_assoc]; exact Nat.le_add_right _ _) HAB.out.1) 101 (by decide)
      have hib : ib ≤ 101 := Hrb.out.cnt0 (Nat.lt_of_le_of_lt (by rw [← HKL.out]; exact Nat.le_trans (Nat.le_add_left _ _) (Nat.le_add_right _ _)) HAB.out.1) 101 (by decide)
      refine held_call 7 (some 80) (by kernel_rfl) rfl rfl rfl 17 #[.agg (natC ia ra), .agg (natC ib rb)] (by go_simp) _ (plus_wide w20 Hra.out Hrb.out (by omega) (by omega)) ?_
      rintro e w21 ⟨ic, rc, rfl, hrc, hW⟩
      have Bw21 : Below w18.drew.heap.size w18.drew w21 := Bw20.trans (hW.mono Bw20.size)
      have qrc := hrc.len
      have Hrc := hideT' hrc
      refine ⟨_, rfl, HB _ Bw21, ?_⟩
      clear hW hrc
      simp only [Act.put, List.setIfInBounds_toArray, List.set_cons_zero, List.set_cons_succ]
      have hic : ic ≤ 101 := Hrc.out.cnt0 (Nat.lt_of_le_of_lt (by rw [← HKL.out]; exact Nat.le_add_right _ _) HAB.out.1) 101 (by decide)
      refine held_call 9 (some 82) (by kernel_rfl) rfl rfl rfl 17 #[.agg (natC ic rc), .agg (natC i3 r3)] (by go_simp) _ (plus_wide w21 Hrc.out HQ.out.2.1 (by omega) (by omega)) ?_
      rintro e w22 ⟨ie, re, rfl, hre, hW⟩
      have Bw22 : Below w18.drew.heap.size w18.drew w22 := Bw21.trans (hW.mono Bw21.size)
      have qre := hre.len
      have Hre := hideT' hre
      refine ⟨_, rfl, HB _ Bw22, ?_⟩
      clear hW hre
      simp only [Act.put, List.setIfInBounds_toArray, List.set_cons_zero, List.set_cons_succ]
      have P722 : NatAt w22 (w.heap.size + 1 + 1) 0 zP := NatAt.below (w := w18.drew) P718 Bw22 P718.lt
      have D22 : RowAt w22 bd 3 #[.int .i64 y] := RowAt.below (w := w18.drew) D18 Bw22 D18.lt
      have K22 : Kp bd w w22 := K18.drew.trans (Kp.below Bw22 (Nat.le_refl _))
      have hS22 := HB _ Bw22
      refine held_store 10 (by kernel_rfl) rfl rfl _ _ rfl rfl (w.heap.size + 1 + 1) ie re rfl rfl 0 zP P722 zP_len qre ?_
      intro w23 N23 hg23 hs23
      refine ⟨⟨hS22.1.grown hg23 (by simp; omega), hS22.2.1.grown hg23 (by simp; omega), hS22.2.2.grown hg23 (by simp; omega)⟩, ?_⟩
      refine wpAnyH_done (by kernel_rfl) ?_ _
      refine NoPanic.normal ?_
      have D23 := hideT' (D22.grown hg23 (by simp; omega))
      have K23 : Kp bd w w23 := K22.own hg23 (.inl (by omega))
      clear hS HB hS18 hS22 Bw19 Bw20 Bw21 Bw22 P722 D22 K22 hg23 K18 P718 D18
      go_wp2
      refine bodyPost_ret (v := .agg (natC ie re)) (res_nat Tryd.results13 _ _ (w.heap.size + 1 + 1) _ _ rfl N23 qre) rfl ⟨ie, re, c2 + c6 + c3, rfl, ?_, Hal.more HLn.out.1 HLn.out.2 HBig.out HM.out HC.out.1 HC.out.2.1 HC.out.2.2, ?_, K23⟩
      · have h := Hre.out
        rw [HKL.out] at h
        exact h
      · have e : IntKind.i64.wrap (x + ((c2 + c6 + c3 : Nat) : Int)) = y := by
          rw [HY.out]
          simp only [IntKind.wrap_i64]
          omega
        rw [e]
        exact D23.out
end Go.Proofs.YtfdlncaplalenaaDoor
