/-
  A range over a function that keeps what is left in a variable of its own: a law over the library's laws of the statement's steps.
-/
import Derived.Test.YtpphkdgjojnfeaaDoorRows
import Derived.RangeFuncCalls
import Derived.RangeFuncRecord
import Derived.RangeFuncSeq
import Derived.RangeFuncOwn
import Derived.RangeFuncLeaves
import Derived.Below
namespace Go.Proofs.YtpphkdgjojnfeaaDoor
open Go.RowKit
set_option linter.unusedVariables false

/-- How a round's body may be left: it goes on, the iterator's variable as it was; or it returns. -/
def boxPost (Bn : Nat) (I Ix : World → Prop) (W : World) : Exit → Act → World → Prop
  | .normal, _, W' => KeepsOthers W W' ∧ W'.heap[Bn]? = W.heap[Bn]? ∧ I W'
  | .ret, _, W' => KeepsOthers W W' ∧ Ix W'
  | _, _, _ => False

/-- What a step of the machinery, or of the iterator, may turn. -/
def Turns (w0 Bn : Nat) (A : World) (row : Option Nat) : Prop := ∀ r, row = some r → r = Bn ∨ (w0 ≤ r ∧ ∃ o : Obj, A.heap[r]? = some o ∧ o.isCells = false)

/-- An iterator over texts whose variable is Bn: what it wants of a round, and what it says then. -/
def BoxSeq (n : Nat) (P : Program) (gf : Nat) (lb : Array Value) (Bn : Nat) (v0 : Option Obj) (Nx : List ByteArray → ByteArray → Prop) (S : List ByteArray → Prop) : Prop :=
  ∀ (l : Nat) (J Jx : List ByteArray → World → Prop) (W : World), W.heap[Bn]? = v0 → (∀ s A B, J s A → A.grownBy B (some Bn) → J s B) →
    (∀ pre x W1, Nx pre x → J pre W1 → YieldAt Fence.wide (n - 1) P l #[.string x] W1 fun e W' =>
      (e = .returned (.bool true) ∧ J (pre ++ [x]) W' ∧ W'.heap[Bn]? = W1.heap[Bn]?) ∨ (e = .returned (.bool false) ∧ Jx (pre ++ [x]) W')) →
    J [] W →
    CallsIn Fence.wide n P gf (#[.func (.yield l) #[] #[]] ++ lb) W fun e W' => (∃ v, e = .returned v) ∧ ((∃ xs, S xs ∧ J xs W') ∨ (∃ pre, Jx pre W'))

theorem range_box {P : Program} {n : Nat} {g : Operand} {p : Tmp} {assign body : Code} {Q : Exit → Act → World → Prop} {a : Act} {w : World} {gf : Nat} {lb : Array Value}
    (hg : a.eval g = .func (.func gf) #[] lb) (eg : ∀ args w, (callFunc gf args).run P w = .ok (.enter gf args) w) (Bn : Nat) (hBn : Bn < w.heap.size)
    (Nx : List ByteArray → ByteArray → Prop) (S : List ByteArray → Prop) (hseq : BoxSeq (n - 1) P gf lb Bn w.heap[Bn]? Nx S)
    (I Ix : List ByteArray → World → Prop) (hI : ∀ s A B row, I s A → A.grownBy B row → Turns w.heap.size Bn A row → I s B) (hIx : ∀ s A B row, Ix s A → A.grownBy B row → Turns w.heap.size Bn A row → Ix s B) (h0 : I [] w) (a₁ : ByteArray → Act)
    (hassign : ∀ (l : Nat) (x : ByteArray) (W : World) (K : Act → World → Prop), K (a₁ x) W → assign.wpIn (Fence.wide.inRound l) (n - 1 - 1) P (Exit.then K (fun _ _ _ => False)) { tmps := a.tmps.setIfInBounds p (.string x), defers := [] } W)
    (hbody : ∀ (l : Nat) (pre : List ByteArray) (x : ByteArray) (W : World), Nx pre x → I pre W → body.wpIn (Fence.wide.inRound l) (n - 1 - 1) P (boxPost Bn (I (pre ++ [x])) (Ix (pre ++ [x])) W) (a₁ x) W)
    (hdone : ∀ (D : Nat) (xs : List ByteArray) (W : World), w.heap.size ≤ D → S xs → I xs W → W.heap[D]? = some (.deferred (some [])) → Q .normal { a with defers := { target := .collected D, args := #[] } :: a.defers } W)
    (hstop : ∀ (D : Nat) (pre : List ByteArray) (W : World), w.heap.size ≤ D → Ix pre W → W.heap[D]? = some (.deferred (some [])) → Code.ret.wpIn Fence.wide n P Q { a with defers := { target := .collected D, args := #[] } :: a.defers } W) :
    (Code.rangeFunc g #[p] assign body).wpIn Fence.wide n P Q a w := by
  refine wpIn_rangeFunc fun fn _ => ?_
  -- the two blocks that the statement lays: D for deferred calls, L the loop's record
  obtain ⟨R, hR⟩ : ∃ R : LoopState → Option Code → Loop, R = fun st pe => { state := st, pending := pe, fn := fn, tmps := a.tmps, params := #[p], assign := assign, body := body, defers := w.heap.size } := ⟨_, rfl⟩
  obtain ⟨D, hD⟩ : ∃ D, D = w.heap.size := ⟨_, rfl⟩
  obtain ⟨L, hL⟩ : ∃ L, L = w.heap.size + 1 := ⟨_, rfl⟩
  have hDL : D ≠ L := by omega
  have hBD : Bn ≠ D := by omega
  have hBL : Bn ≠ L := by omega
  obtain ⟨W1, hW1⟩ : ∃ W1, W1 = (w.alloc (.deferred (some []))).alloc (.loop (R .ready none)) := ⟨_, rfl⟩
  have gW1 : w.grownBy W1 none := by
    rw [hW1]
    refine ⟨rfl, rfl, rfl, by simp; omega, fun k hk _ => ?_⟩
    rw [Below.heap_alloc _ _ _ (by simp; omega), Below.heap_alloc _ _ _ hk]
  have lW1 : W1.heap[L]? = some (.loop (R .ready none)) := by
    rw [hW1, hL]
    have := World.alloc_heap_new (w.alloc (.deferred (some []))) (.loop (R .ready none))
    rwa [World.size_alloc] at this
  have dW1 : W1.heap[D]? = some (.deferred (some [])) := by
    rw [hW1, hD, Below.heap_alloc _ _ _ (by simp)]
    exact World.alloc_heap_new w _
  have bW1 : W1.heap[Bn]? = w.heap[Bn]? := gW1.block Bn hBn (by simp)
  have iW1 : I [] W1 := hI _ _ _ _ h0 gW1 (fun r e => by cases e)
  -- a step on the record keeps what the caller says
  have put : ∀ (K : World → Prop), (∀ A B row, K A → A.grownBy B row → Turns w.heap.size Bn A row → K B) → ∀ (A : World) (o : Obj) (o' : Loop), K A → A.heap[L]? = some o → o.isCells = false → K (A.putObj L (.loop o')) := fun K hK A o o' hA hl ho =>
    hK A _ (some L) hA (grownBy_putObj' A L _) (fun r e => by cases e; exact .inr ⟨by omega, o, hl, ho⟩)
  refine ⟨L, [{ target := .collected D, args := #[] }], W1, { target := .fn (.func gf) lb, args := #[.func (.yield L) #[] #[]] }, W1, gf, #[.func (.yield L) #[] #[]] ++ lb, W1, ?_, ?_, ?_, ?_, fun h => by simp [Fence.wide] at h, ?_⟩
  · rw [hW1, hR, hL, hD]; exact run_enterLoop_outer _ _ _ _ _
  · simp only [resolve, hg]
    simp [go_sem]
  · intro _ _; trivial
  · simp [invoke, go_sem, eg]
  refine (hseq L (fun pre W => I pre W ∧ W.heap[L]? = some (.loop (R .ready none)) ∧ W.heap[D]? = some (.deferred (some [])))
    (fun pre W => Ix pre W ∧ W.heap[L]? = some (.loop (R .done (some .ret))) ∧ W.heap[D]? = some (.deferred (some []))) W1 bW1 ?_ ?_ ⟨iW1, lW1, dW1⟩).mono ?_
  · rintro s A B ⟨hi, hl, hd⟩ hgB
    have lt : ∀ {k : Nat} {o : Obj}, A.heap[k]? = some o → k < A.heap.size := fun h => (Array.getElem?_eq_some_iff.1 h).1
    exact ⟨hI s A B _ hi hgB (fun r e => by cases e; exact .inl rfl), (hgB.block L (lt hl) (by simp; omega)).trans hl, (hgB.block D (lt hd) (by simp; omega)).trans hd⟩
  · rintro pre x W hN ⟨hi, hl, hd⟩
    have hlt : L < W.heap.size := (Array.getElem?_eq_some_iff.1 hl).1
    have hy : (Instr.yield L #[.string x]).run P W = .ok (.round L fn (a.tmps.setIfInBounds p (.string x)) assign body) W := by
      have := run_yield (P := P) (args := #[.string x]) hl (by rw [hR]; rfl)
      rw [hR] at this
      simpa using this
    refine ⟨fn, _, assign, body, hy, roundIn_of_wpIn trivial ?_⟩
    refine hassign L x W _ ?_
    refine ⟨_, run_beginRound hl (by rw [hR]), ?_⟩
    obtain ⟨V, hV⟩ : ∃ V, V = W.putObj L (.loop { R .ready none with state := .busy }) := ⟨_, rfl⟩
    rw [← hV]
    have lV : V.heap[L]? = some (.loop { R .ready none with state := .busy }) := by rw [hV]; exact World.putObj_heap_same hlt
    have dV : V.heap[D]? = some (.deferred (some [])) := by rw [hV]; exact (World.putObj_heap_other hDL).trans hd
    have bV : V.heap[Bn]? = W.heap[Bn]? := by rw [hV]; exact World.putObj_heap_other hBL
    have iV : I pre V := by rw [hV]; exact put (I pre) (fun A B row => hI pre A B row) W _ _ hi hl rfl
    refine wpIn_mono (hbody L pre x V hN iV) ?_
    rintro e a3 W3 hp
    cases e with
    | normal =>
      obtain ⟨hk, hb, hi3⟩ := hp
      have l3 := hk.same _ _ lV rfl
      have hr := run_endRound (P := P) none l3
      refine ⟨_, _, hr, .inl ⟨rfl, ⟨put (I (pre ++ [x])) (fun A B row => hI _ A B row) W3 _ _ hi3 l3 rfl, ?_, (World.putObj_heap_other hDL).trans (hk.same _ _ dV rfl)⟩, (World.putObj_heap_other hBL).trans (hb.trans bV)⟩⟩
      rw [hR]
      exact World.putObj_heap_same (Array.getElem?_eq_some_iff.1 l3).1
    | ret =>
      obtain ⟨hk, hi3⟩ := hp
      have l3 := hk.same _ _ lV rfl
      have hr := run_endRound (P := P) (some .ret) l3
      refine ⟨_, _, hr, .inr ⟨rfl, put (Ix (pre ++ [x])) (fun A B row => hIx _ A B row) W3 _ _ hi3 l3 rfl, ?_, (World.putObj_heap_other hDL).trans (hk.same _ _ dV rfl)⟩⟩
      rw [hR]
      exact World.putObj_heap_same (Array.getElem?_eq_some_iff.1 l3).1
    | exit _ => exact hp.elim
    | goto _ => exact hp.elim
    | panic _ => exact hp.elim
    | outgrown => exact hp.elim
  · rintro e W2 ⟨⟨v, rfl⟩, (⟨xs, hS, hi, hl, hd⟩ | ⟨pre, hi, hl, hd⟩)⟩
    · refine ⟨none, _, by have := run_endLoop (P := P) hl (by rw [hR]; simp); rw [hR] at this; exact this, ?_⟩
      rw [← hR]
      exact hdone D xs _ (by omega) hS (put (I xs) (fun A B row => hI _ A B row) W2 _ _ hi hl rfl) ((World.putObj_heap_other hDL).trans hd)
    · refine ⟨some .ret, _, by have := run_endLoop (P := P) hl (by rw [hR]; simp); rw [hR] at this; exact this, ?_⟩
      exact hstop D pre _ (by omega) (put (Ix pre) (fun A B row => hIx _ A B row) W2 _ _ hi hl rfl) ((World.putObj_heap_other hDL).trans hd)
end Go.Proofs.YtpphkdgjojnfeaaDoor
