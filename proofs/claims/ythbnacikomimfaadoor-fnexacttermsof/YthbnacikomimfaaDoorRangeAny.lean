/-
  A range over a function whose rounds all go on, whatever is given: a law over the library's laws of the statement's steps. The body may write what the iterator reads, as far as the iterator's own needs allow.
-/
import Derived.Test.YthbnacikomimfaaDoorRows
import Derived.RangeFuncCalls
import Derived.RangeFuncRecord
import Derived.RangeFuncSeq
import Derived.RangeFuncOwn
import Derived.RangeFuncLeaves
import Derived.RangeFuncBox
import Derived.Below
import Derived.OrdersIn
import Derived.TacticsIn
namespace Go.Proofs.YthbnacikomimfaaDoor
open Go.RowKit
set_option linter.unusedVariables false

/-- What a step of the machinery may turn: what the statement itself has laid, and it holds no cells. -/
def TurnsN (w0 : Nat) (A : World) (row : Option Nat) : Prop := ∀ r, row = some r → w0 ≤ r ∧ ∃ o : Obj, A.heap[r]? = some o ∧ o.isCells = false

/-- An iterator that writes nothing: what it needs, what comes next, and how it ends. -/
def SeqAny {α : Type} (n : Nat) (P : Program) (gf : Nat) (lb : Array Value) (enc : α → Array Value) (Need : List α → World → Prop) (Nx : List α → α → Prop) (S : List α → Prop) : Prop :=
  ∀ (l : Nat) (J : List α → World → Prop) (W : World), (∀ s A, J s A → Need s A) →
    (∀ pre x W1, Nx pre x → J pre W1 → YieldAt Fence.wide (n - 1) P l (enc x) W1 fun e W' => e = .returned (.bool true) ∧ J (pre ++ [x]) W') →
    J [] W →
    CallsIn Fence.wide n P gf (#[.func (.yield l) #[] #[]] ++ lb) W fun e W' => (∃ v, e = .returned v) ∧ ∃ xs, S xs ∧ J xs W'

/-- How a round's body may be left. -/
def anyPost (I : World → Prop) (W : World) : Exit → Act → World → Prop
  | .normal, _, W' => KeepsOthers W W' ∧ I W'
  | _, _, _ => False

theorem range_any {α : Type} {P : Program} {n : Nat} {g : Operand} {ps : Array Tmp} {assign body : Code} {Q : Exit → Act → World → Prop} {a : Act} {w : World} {gf : Nat} {lb : Array Value}
    (hg : a.eval g = .func (.func gf) #[] lb) (eg : ∀ args w, (callFunc gf args).run P w = .ok (.enter gf args) w)
    (enc : α → Array Value) (hsz : ∀ x, (enc x).size = ps.size)
    (Need : List α → World → Prop) (Nx : List α → α → Prop) (S : List α → Prop) (hseq : SeqAny (n - 1) P gf lb enc Need Nx S)
    (I : List α → World → Prop) (hI : ∀ s A B row, I s A → A.grownBy B row → TurnsN w.heap.size A row → I s B) (hN : ∀ s A, I s A → Need s A) (h0 : I [] w)
    (Ax : List α → α → Act → World → Prop) (hAx : ∀ s x c A B row, Ax s x c A → A.grownBy B row → TurnsN w.heap.size A row → Ax s x c B)
    (hassign : ∀ (l : Nat) (pre : List α) (x : α) (W : World) (K : Act → World → Prop), Nx pre x → I pre W → (∀ c W', Ax pre x c W' → KeepsOthers W W' → K c W') →
      assign.wpIn (Fence.wide.inRound l) (n - 1 - 1) P (Exit.then K (fun _ _ _ => False)) { tmps := (ps.zip (enc x)).foldl (fun tmps (t, a) => tmps.setIfInBounds t a) a.tmps, defers := [] } W)
    (hbody : ∀ (l : Nat) (pre : List α) (x : α) (c : Act) (W : World), Nx pre x → Ax pre x c W → body.wpIn (Fence.wide.inRound l) (n - 1 - 1) P (anyPost (I (pre ++ [x])) W) c W)
    (hdone : ∀ (D : Nat) (xs : List α) (W : World), w.heap.size ≤ D → S xs → I xs W → W.heap[D]? = some (.deferred (some [])) → Q .normal { a with defers := { target := .collected D, args := #[] } :: a.defers } W) :
    (Code.rangeFunc g ps assign body).wpIn Fence.wide n P Q a w := by
  refine wpIn_rangeFunc fun fn _ => ?_
  obtain ⟨R, hR⟩ : ∃ R : LoopState → Option Code → Loop, R = fun st pe => { state := st, pending := pe, fn := fn, tmps := a.tmps, params := ps, assign := assign, body := body, defers := w.heap.size } := ⟨_, rfl⟩
  obtain ⟨D, hD⟩ : ∃ D, D = w.heap.size := ⟨_, rfl⟩
  obtain ⟨L, hL⟩ : ∃ L, L = w.heap.size + 1 := ⟨_, rfl⟩
  have hDL : D ≠ L := by omega
  obtain ⟨W1, hW1⟩ : ∃ W1, W1 = (w.alloc (.deferred (some []))).alloc (.loop (R .ready none)) := ⟨_, rfl⟩
  have gW1 : w.grownBy W1 none := by
    rw [hW1]
    refine ⟨rfl, rfl, rfl, by simp; omega, fun k hk _ => ?_⟩
    rw [Below.heap_alloc _ _ _ (by simp; omega), Below.heap_alloc _ _ _ hk]
  have lW1 : W1.heap[L]? = some (.loop (R .ready none)) := by
    rw [hW1, hL]
    have := World.alloc_heap_new (w.alloc (.deferred (some []))) (.loop (R .ready none))
    rwa [World.size_alloc] at this
  have dW1 : W1.heap[D]? = some (.deferred (some [])) := by
    rw [hW1, hD, Below.heap_alloc _ _ _ (by simp)]
    exact World.alloc_heap_new w _
  have iW1 : I [] W1 := hI _ _ _ _ h0 gW1 (fun r e => by cases e)
  have put : ∀ (K : World → Prop), (∀ A B row, K A → A.grownBy B row → TurnsN w.heap.size A row → K B) → ∀ (A : World) (o : Obj) (o' : Loop), K A → A.heap[L]? = some o → o.isCells = false → K (A.putObj L (.loop o')) := fun K hK A o o' hA hl ho =>
    hK A _ (some L) hA (grownBy_putObj' A L _) (fun r e => by cases e; exact ⟨by omega, o, hl, ho⟩)
  refine ⟨L, [{ target := .collected D, args := #[] }], W1, { target := .fn (.func gf) lb, args := #[.func (.yield L) #[] #[]] }, W1, gf, #[.func (.yield L) #[] #[]] ++ lb, W1, ?_, ?_, ?_, ?_, fun h => by simp [Fence.wide] at h, ?_⟩
  · rw [hW1, hR, hL, hD]; exact run_enterLoop_outer _ _ _ _ _
  · simp only [resolve, hg]
    simp [go_sem]
  · intro _ _; trivial
  · simp [invoke, go_sem, eg]
  refine (hseq L (fun pre W => I pre W ∧ W.heap[L]? = some (.loop (R .ready none)) ∧ W.heap[D]? = some (.deferred (some []))) W1 (fun s A h => hN s A h.1) ?_ ⟨iW1, lW1, dW1⟩).mono ?_
  · rintro pre x W hNx ⟨hi, hl, hd⟩
    have hlt : L < W.heap.size := (Array.getElem?_eq_some_iff.1 hl).1
    have hy : (Instr.yield L (enc x)).run P W = .ok (.round L fn ((ps.zip (enc x)).foldl (fun tmps (t, a) => tmps.setIfInBounds t a) a.tmps) assign body) W := by
      have := run_yield (P := P) (args := enc x) hl (by rw [hR]; exact hsz x)
      rw [hR] at this
      exact this
    refine ⟨fn, _, assign, body, hy, roundIn_of_wpIn trivial ?_⟩
    refine hassign L pre x W _ hNx hi ?_
    intro c V0 hA hk0
    have l0 := hk0.same _ _ hl rfl
    have d0 := hk0.same _ _ hd rfl
    have hlt0 : L < V0.heap.size := (Array.getElem?_eq_some_iff.1 l0).1
    refine ⟨_, run_beginRound l0 (by rw [hR]), ?_⟩
    obtain ⟨V, hV⟩ : ∃ V, V = V0.putObj L (.loop { R .ready none with state := .busy }) := ⟨_, rfl⟩
    rw [← hV]
    have lV : V.heap[L]? = some (.loop { R .ready none with state := .busy }) := by rw [hV]; exact World.putObj_heap_same hlt0
    have dV : V.heap[D]? = some (.deferred (some [])) := by rw [hV]; exact (World.putObj_heap_other hDL).trans d0
    have aV : Ax pre x c V := by rw [hV]; exact put (Ax pre x c) (fun A B row => hAx pre x c A B row) V0 _ _ hA l0 rfl
    refine wpIn_mono (hbody L pre x c V hNx aV) ?_
    rintro e a3 W3 hp
    cases e with
    | normal =>
      obtain ⟨hk, hi3⟩ := hp
      have l3 := hk.same _ _ lV rfl
      have hr := run_endRound (P := P) none l3
      refine ⟨_, _, hr, rfl, put (I (pre ++ [x])) (fun A B row => hI _ A B row) W3 _ _ hi3 l3 rfl, ?_, (World.putObj_heap_other hDL).trans (hk.same _ _ dV rfl)⟩
      rw [hR]
      exact World.putObj_heap_same (Array.getElem?_eq_some_iff.1 l3).1
    | ret => exact hp.elim
    | exit _ => exact hp.elim
    | goto _ => exact hp.elim
    | panic _ => exact hp.elim
    | outgrown => exact hp.elim
  · rintro e W2 ⟨⟨v, rfl⟩, xs, hS, hi, hl, hd⟩
    refine ⟨none, _, by have := run_endLoop (P := P) hl (by rw [hR]; simp); rw [hR] at this; exact this, ?_⟩
    rw [← hR]
    exact hdone D xs _ (by omega) hS (put (I xs) (fun A B row => hI _ A B row) W2 _ _ hi hl rfl) ((World.putObj_heap_other hDL).trans hd)

/-! What the caller's own memory minds of such steps: nothing. -/
theorem row_turn {A B : World} {row : Option Nat} {w0 b : Nat} {t : TypeId} {cs : Array Value} (h : A.heap[b]? = some (.cells cs t (0, 0))) (hg : A.grownBy B row) (hr : TurnsN w0 A row) : B.heap[b]? = some (.cells cs t (0, 0)) := by
  rw [hg.block b (Array.getElem?_eq_some_iff.1 h).1 (fun e => ?_)]
  · exact h
  · obtain ⟨_, o, ho, hc⟩ := hr b e.symm
    rw [h] at ho; cases ho; cases hc
theorem cell_turn {A B : World} {row : Option Nat} {w0 : Nat} {a : Addr} {v : Value} (h : A.cell? a = some v) (hg : A.grownBy B row) (hr : TurnsN w0 A row) : B.cell? a = some v :=
  cell_kept h hg (fun r e => (hr r e).2)
theorem belowN_turn {A B w : World} {row : Option Nat} {w0 N : Nat} (h : Below N w A) (hg : A.grownBy B row) (hr : TurnsN w0 A row) (h0 : N ≤ w0) (hN : N ≤ w.heap.size) : Below N w B :=
  h.grown hg (Nat.le_trans hN h.size) (fun k e => Nat.le_trans h0 (hr k e).1)

/-! A drawn region within a round, by what is proved of it outside of one. -/
section
variable {P : Program} {ops : Array Oper} {Q : Exit → Act → World → Prop} {md : Region.Mode}
def noDefer (ops : Array Oper) : Bool := ops.all fun o => match o.op with | .defer _ => false | _ => true
theorem noDefer_at (h : noDefer ops = true) {i : Nat} {o : Oper} (hi : ops[i]? = some o) : ∀ c, o.op ≠ .defer c := by
  have := Array.all_eq_true_iff_forall_mem.1 h o (Array.mem_of_getElem? hi)
  intro c e
  rw [e] at this
  cases this
theorem oper_round (l n : Nat) {o : Oper} (hd : ∀ c, o.op ≠ .defer c) {a : Act} {w : World} {K : Act → World → Prop} (h : o.wp P a w K Q) : o.wpIn (Fence.wide.inRound l) n P a w K Q := by
  refine ⟨fun _ _ => trivial, ?_⟩
  have e : o.semAt (Fence.wide.inRound l).round a.eval = execOp a.eval o := Oper.semAt_some l a.eval o hd
  rw [e]
  unfold Oper.wp at h
  generalize (execOp a.eval o).run P w = r at h ⊢
  cases r with
  | ok x w' =>
    cases x with
    | value v => exact h
    | skip => exact h
    | defer d => exact h
    | enter f args => exact ⟨fun h => by simp [Fence.wide, Fence.inRound] at h, CallsIn.inRound l (callsIn_wide.2 h)⟩
    | row r args => exact ⟨fun h => by simp [Fence.wide, Fence.inRound] at h, fun c cs _ => let ⟨v, w', r, s⟩ := h c cs; ⟨v, w', r, stepsIn_wide.2 s⟩⟩
    | _ => exact h.elim
  | halt x w' => cases x <;> exact h
theorem anyIn_round (l n : Nat) (hd : noDefer ops = true) (hL : ¬ LetsOut Q) : ∀ (fuel : Nat) (listed : Array Bool) (a : Act) (w : World), wpAny P md ops Q fuel listed a w → wpAnyIn (Fence.wide.inRound l) n P md ops Q fuel listed a w
  | 0, _, _, _, h => h
  | fuel + 1, listed, a, w, h => by
    refine ⟨h.1, fun i hi => ?_⟩
    have h1 := h.2 i hi
    unfold wpOp at h1
    unfold wpOpIn
    cases ho : ops[i]? with
    | none => rw [ho] at h1; exact anyIn_round l n hd hL fuel _ _ _ h1
    | some o =>
      rw [ho] at h1
      simp only at h1 ⊢
      split
      · rename_i hw
        rw [if_pos hw] at h1
        rcases h1 with h1 | h1
        · exact oper_round l n (noDefer_at hd ho) (Oper.wp_mono (fun a w => anyIn_round l n hd hL fuel _ a w) h1)
        · exact absurd h1.2 hL
      · rename_i hw
        rw [if_neg hw] at h1
        exact ⟨fun _ _ => trivial, anyIn_round l n hd hL fuel _ _ _ h1⟩
theorem region_round {id l n : Nat} {a : Act} {w : World} (hm : P.follows .mixedOrders = true) (hd : noDefer ops = true) (hL : ¬ LetsOut Q)
    (h : wpAny P .any ops Q ops.size (Array.replicate ops.size false) a w.drew) : (Code.region id ops true).wpIn (Fence.wide.inRound l) n P Q a w :=
  wpIn_region_any hm (anyIn_round l n hd hL _ _ _ _ h)
end
end Go.Proofs.YthbnacikomimfaaDoor
