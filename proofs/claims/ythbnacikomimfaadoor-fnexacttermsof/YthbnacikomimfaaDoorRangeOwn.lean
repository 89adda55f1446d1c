/-
  A range over a function that makes and writes memory of its own: the caller keeps account of the blocks that are its own (V), the iterator touches none of them, and a round touches those alone.
-/
import Derived.Test.YthbnacikomimfaaDoorRangeAny
namespace Go.Proofs.YthbnacikomimfaaDoor
open Go.RowKit
set_option linter.unusedVariables false

/-- All blocks but those of V stay. -/
def KeepsB (V : Nat → Prop) (W W' : World) : Prop := W.heap.size ≤ W'.heap.size ∧ ∀ b, b < W.heap.size → ¬ V b → W'.heap[b]? = W.heap[b]?
/-- V' is V with new blocks. -/
def MoreB (V V' : Nat → Prop) (W : World) : Prop := ∀ b, V' b → V b ∨ W.heap.size ≤ b
theorem KeepsB.refl (V : Nat → Prop) (W : World) : KeepsB V W W := ⟨Nat.le_refl _, fun _ _ _ => rfl⟩
theorem MoreB.refl (V : Nat → Prop) (W : World) : MoreB V V W := fun _ h => .inl h
theorem MoreB.trans {V V' V'' : Nat → Prop} {A B : World} (h : MoreB V V' A) (hs : A.heap.size ≤ B.heap.size) (h' : MoreB V' V'' B) : MoreB V V'' A := fun b hb => by
  rcases h' b hb with h1 | h1
  · exact h b h1
  · exact .inr (Nat.le_trans hs h1)
theorem KeepsB.trans {V V' : Nat → Prop} {A B C : World} (h : KeepsB V A B) (hm : MoreB V V' A) (h' : KeepsB V' B C) : KeepsB V A C :=
  ⟨Nat.le_trans h.1 h'.1, fun b hb hv => by
    rw [h'.2 b (Nat.lt_of_lt_of_le hb h.1) (fun hv' => by rcases hm b hv' with h1 | h1; exact hv h1; omega)]
    exact h.2 b hb hv⟩
theorem KeepsB.grown {V : Nat → Prop} {A B : World} {row : Option Nat} (hg : A.grownBy B row) (hr : ∀ r, row = some r → V r ∨ A.heap.size ≤ r) : KeepsB V A B :=
  ⟨hg.size, fun b hb hv => hg.block b hb (fun e => by rcases hr b e.symm with h | h; exact hv h; omega)⟩
theorem KeepsB.below {V : Nat → Prop} {A B : World} (h : Below A.heap.size A B) : KeepsB V A B := ⟨h.size, fun b hb _ => h.block b hb⟩

/-- An iterator with memory of its own. -/
def SeqOwn {α : Type} (P : Program) (gf : Nat) (lb : Array Value) (enc : α → Array Value) (Need : (Nat → Prop) → World → Prop) (Nx : List α → α → (Nat → Prop) → World → Prop) (S : List α → Prop) : Prop :=
  ∀ (l : Nat) (J : List α → (Nat → Prop) → World → Prop) (JF : World → Prop) (W : World) (U : Nat → Prop),
    (∀ s V A, J s V A → ∀ b, V b → b < A.heap.size) →
    (∀ s V A B row, J s V A → A.grownBy B row → (∀ r, row = some r → ¬ V r ∧ W.heap.size ≤ r) → J s V B) →
    (∀ pre x V W1, J pre V W1 → Nx pre x V W1 → YieldAt Fence.wide 2 P l (enc x) W1 fun e W' => (e = .returned (.bool true) ∧ ∃ V', J (pre ++ [x]) V' W' ∧ MoreB V V' W1 ∧ KeepsB V W1 W') ∨ (e = .returned (.bool false) ∧ JF W')) →
    Need U W → J [] U W →
    CallsIn Fence.wide 3 P gf (#[.func (.yield l) #[] #[]] ++ lb) W fun e W' => (∃ v, e = .returned v) ∧ ((∃ ys U', S ys ∧ J ys U' W') ∨ JF W')

/-- How a round's body may be left. -/
def ownPost {α : Type} (I : List α → (Nat → Prop) → World → Prop) (s : List α) (V : Nat → Prop) (W : World) : Exit → Act → World → Prop
  | .normal, _, W' => ∃ V', I s V' W' ∧ MoreB V V' W ∧ KeepsB V W W'
  | _, _, _ => False

theorem range_own {α : Type} {P : Program} {g : Operand} {ps : Array Tmp} {assign body : Code} {Q : Exit → Act → World → Prop} {a : Act} {w : World} {gf : Nat} {lb : Array Value}
    (hg : a.eval g = .func (.func gf) #[] lb) (eg : ∀ args w, (callFunc gf args).run P w = .ok (.enter gf args) w)
    (enc : α → Array Value) (hsz : ∀ x, (enc x).size = ps.size)
    (Need : (Nat → Prop) → World → Prop) (Nx : List α → α → (Nat → Prop) → World → Prop) (S : List α → Prop) (hseq : SeqOwn P gf lb enc Need Nx S)
    (hNx : ∀ pre x V V' W, (∀ b, V' b → V b) → Nx pre x V W → Nx pre x V' W)
    (I : List α → (Nat → Prop) → World → Prop) (hlt : ∀ s V A, I s V A → ∀ b, V b → b < A.heap.size)
    (hI : ∀ s V A B row, I s V A → A.grownBy B row → (∀ r, row = some r → ¬ V r ∧ w.heap.size ≤ r) → I s V B) (U0 : Nat → Prop) (h0 : I [] U0 w)
    (hNeed : ∀ B V, w.grownBy B none → (∀ b, V b → U0 b ∨ w.heap.size ≤ b) → Need V B)
    (Ax : List α → α → (Nat → Prop) → Act → World → Prop)
    (hAx : ∀ s x V c A B row, Ax s x V c A → A.grownBy B row → (∀ r, row = some r → (¬ V r ∧ w.heap.size ≤ r) ∧ ∃ o : Obj, A.heap[r]? = some o ∧ o.isCells = false) → Ax s x V c B)
    (hassign : ∀ (l : Nat) (pre : List α) (x : α) (V : Nat → Prop) (W : World) (K : Act → World → Prop), Nx pre x V W → I pre V W → (∀ c W' V', Ax pre x V' c W' → MoreB V V' W → KeepsB V W W' → K c W') →
      assign.wpIn (Fence.wide.inRound l) 2 P (Exit.then K (fun _ _ _ => False)) { tmps := (ps.zip (enc x)).foldl (fun tmps (t, a) => tmps.setIfInBounds t a) a.tmps, defers := [] } W)
    (hbody : ∀ (l : Nat) (pre : List α) (x : α) (V : Nat → Prop) (c : Act) (W : World), Ax pre x V c W → body.wpIn (Fence.wide.inRound l) 2 P (ownPost I (pre ++ [x]) V W) c W)
    (hdone : ∀ (D : Nat) (xs : List α) (V : Nat → Prop) (W : World), w.heap.size ≤ D → S xs → I xs V W → ¬ V D → W.heap[D]? = some (.deferred (some [])) → Q .normal { a with defers := { target := .collected D, args := #[] } :: a.defers } W) :
    (Code.rangeFunc g ps assign body).wpIn Fence.wide 4 P Q a w := by
  refine wpIn_rangeFunc fun fn _ => ?_
  obtain ⟨R, hR⟩ : ∃ R : LoopState → Option Code → Loop, R = fun st pe => { state := st, pending := pe, fn := fn, tmps := a.tmps, params := ps, assign := assign, body := body, defers := w.heap.size } := ⟨_, rfl⟩
  obtain ⟨D, hD⟩ : ∃ D, D = w.heap.size := ⟨_, rfl⟩
  obtain ⟨L, hL⟩ : ∃ L, L = w.heap.size + 1 := ⟨_, rfl⟩
  have hDL : D ≠ L := by omega
  obtain ⟨W1, hW1⟩ : ∃ W1, W1 = (w.alloc (.deferred (some []))).alloc (.loop (R .ready none)) := ⟨_, rfl⟩
  have gW1 : w.grownBy W1 none := by
    rw [hW1]
    refine ⟨rfl, rfl, rfl, by simp; omega, fun k hk _ => ?_⟩
    rw [Below.heap_alloc _ _ _ (by simp; omega), Below.heap_alloc _ _ _ hk]
  have lW1 : W1.heap[L]? = some (.loop (R .ready none)) := by
    rw [hW1, hL]
    have := World.alloc_heap_new (w.alloc (.deferred (some []))) (.loop (R .ready none))
    rwa [World.size_alloc] at this
  have dW1 : W1.heap[D]? = some (.deferred (some [])) := by
    rw [hW1, hD, Below.heap_alloc _ _ _ (by simp)]
    exact World.alloc_heap_new w _
  have iW1 : I [] U0 W1 := hI _ _ _ _ _ h0 gW1 (fun r e => by cases e)
  have uL : ¬ U0 L := fun h => by have := hlt _ _ _ h0 _ h; omega
  have uD : ¬ U0 D := fun h => by have := hlt _ _ _ h0 _ h; omega
  have put : ∀ (s : List α) (V : Nat → Prop) (A : World) (o' : Loop), I s V A → ¬ V L → I s V (A.putObj L (.loop o')) := fun s V A o' hA hl =>
    hI _ _ A _ (some L) hA (grownBy_putObj' A L _) (fun r e => by cases e; exact ⟨hl, by omega⟩)
  refine ⟨L, [{ target := .collected D, args := #[] }], W1, { target := .fn (.func gf) lb, args := #[.func (.yield L) #[] #[]] }, W1, gf, #[.func (.yield L) #[] #[]] ++ lb, W1, ?_, ?_, ?_, ?_, fun h => by simp [Fence.wide] at h, ?_⟩
  · rw [hW1, hR, hL, hD]; exact run_enterLoop_outer _ _ _ _ _
  · simp only [resolve, hg]
    simp [go_sem]
  · intro _ _; trivial
  · simp [invoke, go_sem, eg]
  refine (hseq L (fun pre V W => ∃ V0, (∀ b, V b ↔ (V0 b ∨ b = L ∨ b = D)) ∧ I pre V0 W ∧ (¬ V0 L ∧ ¬ V0 D) ∧ W.heap[L]? = some (.loop (R .ready none)) ∧ W.heap[D]? = some (.deferred (some []))) (fun _ => False) W1 (fun b => U0 b ∨ b = L ∨ b = D) ?_ ?_ ?_ ?_ ?_).mono ?_
  · rintro s V A ⟨V0, hV, hi, _, hl, hd⟩ b hb
    rcases (hV b).1 hb with h | rfl | rfl
    · exact hlt _ _ _ hi _ h
    · exact (Array.getElem?_eq_some_iff.1 hl).1
    · exact (Array.getElem?_eq_some_iff.1 hd).1
  · rintro s V A B row ⟨V0, hV, hi, hn, hl, hd⟩ hgr hrow
    have hL' : some L ≠ row := fun e => (hrow L e.symm).1 ((hV L).2 (.inr (.inl rfl)))
    have hD' : some D ≠ row := fun e => (hrow D e.symm).1 ((hV D).2 (.inr (.inr rfl)))
    exact ⟨V0, hV, hI _ _ _ _ _ hi hgr (fun r e => ⟨fun h => (hrow r e).1 ((hV r).2 (.inl h)), Nat.le_trans gW1.size (hrow r e).2⟩), hn, (hgr.block L (Array.getElem?_eq_some_iff.1 hl).1 hL').trans hl, (hgr.block D (Array.getElem?_eq_some_iff.1 hd).1 hD').trans hd⟩
  · rintro pre x V W ⟨V0, hV, hi, ⟨hnL, hnD⟩, hl, hd⟩ hNx1
    have hlt1 : L < W.heap.size := (Array.getElem?_eq_some_iff.1 hl).1
    have hltD : D < W.heap.size := (Array.getElem?_eq_some_iff.1 hd).1
    have hy : (Instr.yield L (enc x)).run P W = .ok (.round L fn ((ps.zip (enc x)).foldl (fun tmps (t, a) => tmps.setIfInBounds t a) a.tmps) assign body) W := by
      have := run_yield (P := P) (args := enc x) hl (by rw [hR]; exact hsz x)
      rw [hR] at this
      exact this
    refine ⟨fn, _, assign, body, hy, roundIn_of_wpIn trivial ?_⟩
    refine hassign L pre x V0 W _ (hNx _ _ _ _ _ (fun b h => (hV b).2 (.inl h)) hNx1) hi ?_
    intro c W2 V2 hA hm0 hk0
    have l0 := (hk0.2 L hlt1 hnL).trans hl
    have d0 := (hk0.2 D hltD hnD).trans hd
    have hlt0 : L < W2.heap.size := (Array.getElem?_eq_some_iff.1 l0).1
    have hltD0 : D < W2.heap.size := (Array.getElem?_eq_some_iff.1 d0).1
    have n2L : ¬ V2 L := fun h => by rcases hm0 L h with h | h; exact hnL h; omega
    have n2D : ¬ V2 D := fun h => by rcases hm0 D h with h | h; exact hnD h; omega
    refine ⟨_, run_beginRound l0 (by rw [hR]), ?_⟩
    obtain ⟨W3, hW3⟩ : ∃ W3, W3 = W2.putObj L (.loop { R .ready none with state := .busy }) := ⟨_, rfl⟩
    rw [← hW3]
    have lV : W3.heap[L]? = some (.loop { R .ready none with state := .busy }) := by rw [hW3]; exact World.putObj_heap_same hlt0
    have dV : W3.heap[D]? = some (.deferred (some [])) := by rw [hW3]; exact (World.putObj_heap_other hDL).trans d0
    have sV : W3.heap.size = W2.heap.size := by rw [hW3]; simp [World.putObj]
    have g3 : W2.grownBy W3 (some L) := by rw [hW3]; exact grownBy_putObj' W2 L _
    have aV : Ax pre x V2 c W3 := hAx _ _ _ _ _ _ _ hA g3 (fun r e => by cases e; exact ⟨⟨n2L, by omega⟩, _, l0, rfl⟩)
    refine wpIn_mono (hbody L pre x V2 c W3 aV) ?_
    rintro e a3 W4 hp
    cases e with
    | normal =>
      obtain ⟨V4, hi4, hm4, hk4⟩ := hp
      have l4 := (hk4.2 L (by omega) n2L).trans lV
      have d4 := (hk4.2 D (by omega) n2D).trans dV
      have hr := run_endRound (P := P) none l4
      have n4L : ¬ V4 L := fun h => by rcases hm4 L h with h | h; exact n2L h; omega
      have n4D : ¬ V4 D := fun h => by rcases hm4 D h with h | h; exact n2D h; omega
      have hlt4 : L < W4.heap.size := (Array.getElem?_eq_some_iff.1 l4).1
      have lE : (W4.putObj L (.loop (R .ready none))).heap[L]? = some (.loop (R .ready none)) := World.putObj_heap_same hlt4
      have hm24 : MoreB V0 V4 W := hm0.trans hk0.1 (fun b hb => by rcases hm4 b hb with h | h; exact .inl h; exact .inr (by omega))
      refine ⟨_, _, hr, .inl ⟨rfl, fun b => V4 b ∨ b = L ∨ b = D, ⟨V4, fun b => Iff.rfl, put _ _ W4 _ hi4 n4L, ⟨n4L, n4D⟩, ?_, (World.putObj_heap_other hDL).trans d4⟩, ?_, ?_⟩⟩
      · rw [hR] at lE ⊢; exact lE
      · intro b hb
        rcases hb with h | h | h
        · rcases hm24 b h with h | h
          · exact .inl ((hV b).2 (.inl h))
          · exact .inr h
        · exact .inl ((hV b).2 (.inr (.inl h)))
        · exact .inl ((hV b).2 (.inr (.inr h)))
      · refine ⟨by have := hk4.1; have := hk0.1; simp [World.putObj]; omega, fun b hb hv => ?_⟩
        have hbL : b ≠ L := fun e => hv ((hV b).2 (.inr (.inl e)))
        have hb0 : ¬ V0 b := fun h => hv ((hV b).2 (.inl h))
        have hb2 : ¬ V2 b := fun h => by rcases hm0 b h with h | h; exact hb0 h; omega
        rw [World.putObj_heap_other (Ne.symm hbL).symm, hk4.2 b (by have := hk0.1; omega) hb2, hW3, World.putObj_heap_other (Ne.symm hbL).symm, hk0.2 b hb hb0]
    | ret => exact hp.elim
    | exit _ => exact hp.elim
    | goto _ => exact hp.elim
    | panic _ => exact hp.elim
    | outgrown => exact hp.elim
  · exact hNeed W1 _ gW1 (fun b hb => by rcases hb with h | h | h; exact .inl h; exact .inr (by omega); exact .inr (by omega))
  · exact ⟨U0, fun b => Iff.rfl, iW1, ⟨uL, uD⟩, lW1, dW1⟩
  · rintro e W2 ⟨⟨v, rfl⟩, h⟩
    rcases h with ⟨ys, U', hS, V0, hV, hi, ⟨hnL, hnD⟩, hl, hd⟩ | h
    · refine ⟨none, _, by have := run_endLoop (P := P) hl (by rw [hR]; simp); rw [hR] at this; exact this, ?_⟩
      rw [← hR]
      exact hdone D ys V0 _ (by omega) hS (put _ _ W2 _ hi hnL) hnD ((World.putObj_heap_other hDL).trans hd)
    · exact h.elim
end Go.Proofs.YthbnacikomimfaaDoor
