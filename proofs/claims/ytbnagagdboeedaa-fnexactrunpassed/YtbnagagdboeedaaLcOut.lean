/-
  A tree of the model that is made part by part, in memory.
-/
import Derived.Test.YtbnagagdboeedaaSpecLc
namespace Go.Proofs.Ytbnagagdboeedaa
open Go.RowKit BL
set_option linter.unusedVariables false

/-- Blocks of parts of a new tree: old ones below its own, and new ones, but for the row of the parts. -/
def OutP (w3 : World) (ob : Nat) (P : Nat → Prop) (z : Value) (x : Nat) : Prop := ((P x ∧ x < ob) ∨ w3.heap.size ≤ x) ∧ z.ownBlock ≠ some x
structure OutZ (w3 wr : World) (ob : Nat) (kd nm : Int) (P : Nat → Prop) (As : List Lm) (z : Value) (ys : List Value) : Prop where
  row : RowAt wr ob 54 (lcC kd nm z)
  own : wr.ownsRow w3.heap.size 54 3 z As.length ys
  kids : LcsIn wr (OutP w3 ob P z) As ys
  same : ∀ b, b < w3.heap.size → b ≠ ob → wr.heap[b]? = w3.heap[b]?
  size : w3.heap.size ≤ wr.heap.size
  lt : ob < w3.heap.size
theorem OutZ.start {w3 : World} {ob : Nat} {kd nm : Int} {P : Nat → Prop} (h : RowAt w3 ob 54 (lcC kd nm (.slice none 0 0))) : OutZ w3 w3 ob kd nm P [] (.slice none 0 0) [] :=
  ⟨h, ⟨rfl, .inl ⟨rfl, rfl⟩⟩, rfl, fun _ _ _ => rfl, Nat.le_refl _, h.lt⟩
theorem OutZ.below {w3 wr w' : World} {ob : Nat} {kd nm : Int} {P : Nat → Prop} {As : List Lm} {z : Value} {ys : List Value} (h : OutZ w3 wr ob kd nm P As z ys) (hB : Below wr.heap.size wr w') : OutZ w3 w' ob kd nm P As z ys :=
  ⟨h.row.below hB h.row.lt, own_keep h.own (fun g e => hB.block g (h.own.lt g e).2), LcsIn.keep hB.size (fun x _ hl => hB.block x hl) (fun _ h _ => h) h.kids, fun b hb hne => by rw [hB.block b (Nat.lt_of_lt_of_le hb h.size)]; exact h.same b hb hne, Nat.le_trans h.size hB.size, h.lt⟩
theorem OutZ.moved {w3 wr w' : World} {ob : Nat} {kd nm : Int} {P : Nat → Prop} {As : List Lm} {z : Value} {ys : List Value} (h : OutZ w3 wr ob kd nm P As z ys) (hs : wr.heap.size ≤ w'.heap.size) (hb : ∀ x, x < wr.heap.size → w'.heap[x]? = wr.heap[x]?) : OutZ w3 w' ob kd nm P As z ys :=
  ⟨by unfold RowAt; rw [hb _ h.row.lt]; exact h.row, own_keep h.own (fun g e => hb g (h.own.lt g e).2), LcsIn.keep hs (fun x _ hl => hb x hl) (fun _ h _ => h) h.kids, fun b hl hne => by rw [hb b (Nat.lt_of_lt_of_le hl h.size)]; exact h.same b hl hne, Nat.le_trans h.size hs, h.lt⟩
theorem OutZ.rowOf {w3 wr : World} {ob : Nat} {kd nm : Int} {P : Nat → Prop} {As : List Lm} {z : Value} {ys : List Value} (h : OutZ w3 wr ob kd nm P As z ys) {b : Nat} {T : TypeId} {cs : Array Value} (hb : b ≠ ob) (hR : RowAt w3 b T cs) : RowAt wr b T cs := by
  unfold RowAt; rw [h.same b hR.lt hb]; exact hR
theorem OutZ.push {w3 wr w6 w7 : World} {X : Obj} {ob : Nat} {kd nm : Int} {P : Nat → Prop} {As : List Lm} {z v6 z1 : Value} {ys : List Value} {T : Lm} (h : OutZ w3 wr ob kd nm P As z ys) (hT : LcIn wr (OutP w3 ob P z) T z1)
    (hv6 : w6.ownsRow w3.heap.size 54 3 v6 (As.length + 1) (ys ++ lcL T.kd T.nm z1)) (hg6 : (wr.alloc X).grownBy w6 z.ownBlock) (hb6 : v6.ownBlock = z.ownBlock ∨ v6.ownBlock = some (wr.alloc X).heap.size)
    (hR7 : RowAt w7 ob 54 (lcC kd nm v6)) (hg7 : w6.grownBy w7 (some ob)) : OutZ w3 w7 ob kd nm P (As ++ [T]) v6 (ys ++ lcL T.kd T.nm z1) := by
  have hs := h.size
  have hlt := h.lt
  have hs6 := hg6.size
  have hs7 := hg7.size
  simp only [World.size_alloc] at hs6 hb6
  have hnb : ∀ b, z.ownBlock = some b → w3.heap.size ≤ b ∧ b < wr.heap.size := fun b hb => h.own.lt b hb
  have hgx : ∀ b, b < wr.heap.size → b ≠ ob → z.ownBlock ≠ some b → w7.heap[b]? = wr.heap[b]? := fun b hb hbt hbo => by
    rw [hg7.block b (by omega) (by intro e; injection e; omega), hg6.block b (by simp; omega) (fun e => hbo e.symm), Below.heap_alloc _ _ _ hb]
  have hown6 : ∀ b, b < wr.heap.size → z.ownBlock ≠ some b → v6.ownBlock ≠ some b := fun b hb hbo e => by
    rcases hb6 with h | h
    · exact hbo (by rw [← h]; exact e)
    · rw [h] at e
      injection e with e
      omega
  have hne : ∀ x, OutP w3 ob P z x → x ≠ ob := fun x hx => by rcases hx.1 with hx | hx <;> omega
  refine ⟨hR7, ?_, LcsIn.snoc (LcIn.keep (w := wr) (by omega) (fun x hx hl => hgx x hl (hne x hx) hx.2) (fun x hx hl => ⟨hx.1, hown6 x hl hx.2⟩) hT) (LcsIn.keep (w := wr) (by omega) (fun x hx hl => hgx x hl (hne x hx) hx.2) (fun x hx hl => ⟨hx.1, hown6 x hl hx.2⟩) h.kids), fun b hb hbt => ?_, by omega, hlt⟩
  · rw [List.length_append]
    exact own_keep hv6 (fun b hb => hg7.block b (hv6.lt b hb).2 (by intro e; injection e with e; have := (hv6.lt b hb).1; omega))
  · rw [hgx b (by omega) hbt (fun e => by have := (hnb b e).1; omega)]
    exact h.same b hb hbt
theorem OutZ.done {w3 wr : World} {ob : Nat} {P : Nat → Prop} {t : Lm} {z : Value} {ys : List Value} {kd nm : Int} (h : OutZ w3 wr ob kd nm P t.kids z ys) : LcIn wr (fun x => (P x ∧ x < ob) ∨ w3.heap.size ≤ x) t z :=
  LcIn.of_row (B := w3.heap.size) (ys := ys) h.own (LcsIn.keep (Nat.le_refl _) (fun _ _ _ => rfl) (fun x hx _ => hx.1) h.kids) (fun g e => .inr (h.own.lt g e).1)
/-- What is old, or lies behind a point that is new, is no block of the row. -/
theorem OutZ.part {w3 wr w' : World} {ob N : Nat} {kd nm : Int} {P Q : Nat → Prop} {As : List Lm} {z z1 : Value} {ys : List Value} {T : Lm} (h : OutZ w3 wr ob kd nm P As z ys) (hN : wr.heap.size ≤ N) (hT : LcIn w' Q T z1) (hQ : ∀ x, Q x → x < w'.heap.size → (P x ∧ x < ob) ∨ N ≤ x) : LcIn w' (OutP w3 ob P z) T z1 := by
  refine LcIn.mono (fun x hx hl => ?_) hT
  have hs := h.size
  have hlt := h.lt
  have hnb : ∀ b, z.ownBlock = some b → w3.heap.size ≤ b ∧ b < wr.heap.size := fun b hb => h.own.lt b hb
  rcases hQ x hx hl with h1 | h1
  · exact ⟨.inl h1, fun e => by have := hnb x e; omega⟩
  · exact ⟨.inr (by omega), fun e => by have := hnb x e; omega⟩
theorem res_lc_tmp {fn : Func} {x u : Tmp} (h : fn.results = #[.cell x 54, .tmp u]) (tmps : Array Value) (w : World) (b : Nat) (k n : Int) (z v : Value)
    (hp : tmps.getD x undef = .pointer (some ⟨b, 0, none⟩)) (hv : tmps.getD u undef = v) (hN : RowAt w b 54 (lcC k n z)) : (results fn tmps).run Try.prog w = .ok (.tuple #[.agg (lcC k n z), v]) w := by
  rw [results_cell_tmp h, hp, hv]
  simp only [asAddr, Sem.run_pure, Result.andThen, run_loadVar_row w b 54 54 (lcC k n z) (0, 0) _ hN Try.underlying54 rfl zero_lcT.2]
end Go.Proofs.Ytbnagagdboeedaa
