/-
  The texts CbTold, CbSpecLc, CbLcOut, CbImplRep, CbPutS, CbPut, SpecGoodT, ImplRedB, SpecRed, MarkComb, CbTermArg, one behind the other, as one.
-/
import Derived.Test.YtbkdlkpiaekblaaCbImplTell
import Derived.Test.YtbkdlkpiaekblaaCbSpecTold
import Derived.Test.YtbkdlkpiaekblaaCbLcMem
import Derived.Test.YtbkdlkpiaekblaaCbSpecTree
import Derived.Deep.QuietTactic
import Derived.BigQuiet
import Derived.Test.YtbkdlkpiaekblaaSpecParts
import Derived.Deep.LoopGhost
import Derived.Deep.CutBlock
import Derived.Deep.DeepCutAuto
import Derived.Test.YtbkdlkpiaekblaaImplRed
import Derived.Maps.OwnIn
import Derived.Test.YtbkdlkpiaekblaaRecs2
import Derived.Test.YtbkdlkpiaekblaaRecComb
import Derived.Test.YtbkdlkpiaekblaaRecArg
import Derived.Test.YtbkdlkpiaekblaaCbTreeMem

/-
  What is told of a term that may be none: the answers of functions that give a term and whether it is good.
-/
namespace Go.Proofs.Ytbkdlkpiaekblaa.CB
open Go.RowKit BL
set_option linter.unusedVariables false

def toldB : Option Lm → Bool
  | none => false
  | some t => t.good
def toldL : Option Lm → List (Int × Int × Int)
  | none => []
  | some t => if t.good then tri (t.flat 0 (-1)) else []
theorem toldL_len (o : Option Lm) : (toldL o).length ≤ 1048576 := by
  cases o with
  | none => simp [toldL]
  | some t =>
    unfold toldL
    simp only
    split
    · next h => rw [tri_len, Lm.flat_sz]; have := (Lm.good_sz h).1; omega
    · simp
def TOut (w : World) (o : Option Lm) (e : Ending) (w' : World) : Prop := ∃ u, e = .returned (.tuple #[u, .bool (toldB o)]) ∧ OwnR w' w.heap.size u 94 combL 3 (toldL o)
theorem TOut.no {w w' : World} : TOut w none (.returned (.tuple #[.slice none 0 0, .bool false])) w' := ⟨_, rfl, World.ownsRow_nil _ _ _ _⟩
theorem TOut.bad {w w' : World} {o : Option Lm} (h : o = none) : TOut w o (.returned (.tuple #[.slice none 0 0, .bool false])) w' := by subst h; exact TOut.no
theorem ToldT.out {w w1 w' : World} {t : Lm} {e : Ending} {o : Option Lm} (h : ToldT w1 t e w') (hs : w.heap.size ≤ w1.heap.size) (ho : o = some t) : TOut w o e w' := by
  subst ho
  obtain ⟨u, he, hO⟩ := h
  exact ⟨u, he, ⟨hO.1, hO.2.imp id fun ⟨g, cap, cur, h1, h2, h3⟩ => ⟨g, cap, cur, h1, Nat.le_trans hs h2, h3⟩⟩⟩
/-- A told answer's parts. -/
theorem ToldT.parts {w w' : World} {t : Lm} {e : Ending} (h : ToldT w t e w') : ∃ u, e = .returned (.tuple #[u, .bool t.good]) ∧ OwnR w' w.heap.size u 94 combL 3 (toldL (some t)) := h
theorem readP'_facts {l : List Nd} {t : Lm} (h : readP' l = some t) : l = t.flat 0 (-1) ∧ t.sz ≤ 200 ∧ t.dp ≤ 60 ∧ t.ok = true ∧ t.good = true := by
  have h1 := (readP'_iff l t).1 h
  have h2 := Lm.good_sz h1.2
  exact ⟨h1.1, h2.1, h2.2.1, h2.2.2, h1.2⟩
theorem goodS_none {l : List Nd} (h : readP' l = none) : goodS l = false := by rw [goodS_read, h]; rfl
theorem goodS_some {l : List Nd} {t : Lm} (h : readP' l = some t) : goodS l = true := by rw [goodS_read, h]; rfl
/-- lcTree of a whole good row. -/
theorem lcTree_whole (l : List Nd) (t : Lm) (v : Value) (w : World) (hv : NdIn w v l) (h : readP' l = some t) :
    Calls Try.prog 83 #[v, .int .i64 0] w fun e w' => (∃ z, e = .returned (.agg (lcC t.kd t.nm z)) ∧ LcIn w' (fun x => w.heap.size ≤ x) t z) ∧ Below w.heap.size w w' := by
  obtain ⟨h1, h2, _⟩ := readP'_facts h
  exact lcTree_all t.sz t (Nat.le_refl _) l 0 (-1) v w (by rw [h1, Lm.flat_sz]; exact h2) hv (by rw [h1]; exact Seg.whole t) (fun i h3 h4 => by rw [h1, Lm.flat_sz] at h4; omega)
end Go.Proofs.Ytbkdlkpiaekblaa.CB

/-
  What the small makers of trees of the model answer: lcVar, lcLam, lcApp.
-/
namespace Go.Proofs.Ytbkdlkpiaekblaa.CB
open Go.RowKit BL
set_option linter.unusedVariables false

set_option maxHeartbeats 1000000 in
theorem ldOne_any (k : Int) (w : World) : Calls Try.prog 121 #[.int .i64 k] w fun e w' => e = .returned (.agg (lcC k 0 (.slice none 0 0))) ∧ Below w.heap.size w w' := by
  have hz := zero_lcT.1
  have HR := hideT' (RowAt.new w 105 #[.int .i64 k, .int .i64 0, .slice none 0 0])
  unfold lcC
  go_enter Try.func121, Try.ntmps121
  go_wp2
  refine bodyPost_ret (v := .agg #[.int .i64 k, .int .i64 0, .slice none 0 0]) (results_cell_row Try.results121 _ _ w.heap.size 105 #[.int .i64 k, .int .i64 0, .slice none 0 0] (0, 0) _ rfl HR.out Try.underlying105 rfl zero_lcT.2) rfl ⟨rfl, (Below.refl _ _).alloc (Nat.le_refl _) _⟩
set_option maxHeartbeats 2000000 in
theorem lcApp_any (s t : Lm) (z1 z2 : Value) (P : Nat → Prop) (w : World) (h1 : LcIn w P s z1) (h2 : LcIn w P t z2) :
    Calls Try.prog 120 #[.agg (lcC s.kd s.nm z1), .agg (lcC t.kd t.nm z2)] w fun e w' => (∃ z', e = .returned (.agg (lcC 2 0 z')) ∧ LcIn w' (fun x => P x ∨ w.heap.size ≤ x) (.app s t) z') ∧ Below w.heap.size w w' := by
  have hz := zero_lcT.1
  obtain ⟨o1, c1, rfl⟩ := h1.form
  obtain ⟨o2, c2, rfl⟩ := h2.form
  obtain ⟨W, hW⟩ : ∃ W, W = (((w.alloc (.cells #[.int .i64 s.kd, .int .i64 s.nm, .slice o1 s.kids.length c1] 105)).alloc (.cells #[.int .i64 t.kd, .int .i64 t.nm, .slice o2 t.kids.length c2] 105)).alloc (.cells #[.int .i64 2, .int .i64 0, .slice (some ⟨w.heap.size + 1 + 1 + 1, 0, none⟩) 2 2] 105)).alloc (.cells #[.int .i64 s.kd, .int .i64 s.nm, .slice o1 s.kids.length c1, .int .i64 t.kd, .int .i64 t.nm, .slice o2 t.kids.length c2] 105) := ⟨_, rfl⟩
  have hB : Below w.heap.size w W := by rw [hW]; exact ((((Below.refl _ _).alloc (Nat.le_refl _) _).alloc (by simp) _).alloc (by simp; omega) _).alloc (by simp; omega) _
  have hR : RowAt W (w.heap.size + 1 + 1) 105 #[.int .i64 2, .int .i64 0, .slice (some ⟨w.heap.size + 1 + 1 + 1, 0, none⟩) 2 2] := by
    rw [hW]
    have := RowAt.new ((w.alloc (.cells #[.int .i64 s.kd, .int .i64 s.nm, .slice o1 s.kids.length c1] 105)).alloc (.cells #[.int .i64 t.kd, .int .i64 t.nm, .slice o2 t.kids.length c2] 105)) 105 #[.int .i64 2, .int .i64 0, .slice (some ⟨w.heap.size + 1 + 1 + 1, 0, none⟩) 2 2]
    rw [World.size_alloc, World.size_alloc] at this
    exact RowAt.old this _
  have hK : RowAt W (w.heap.size + 1 + 1 + 1) 105 #[.int .i64 s.kd, .int .i64 s.nm, .slice o1 s.kids.length c1, .int .i64 t.kd, .int .i64 t.nm, .slice o2 t.kids.length c2] := by
    rw [hW]
    have := RowAt.new (((w.alloc (.cells #[.int .i64 s.kd, .int .i64 s.nm, .slice o1 s.kids.length c1] 105)).alloc (.cells #[.int .i64 t.kd, .int .i64 t.nm, .slice o2 t.kids.length c2] 105)).alloc (.cells #[.int .i64 2, .int .i64 0, .slice (some ⟨w.heap.size + 1 + 1 + 1, 0, none⟩) 2 2] 105)) 105 #[.int .i64 s.kd, .int .i64 s.nm, .slice o1 s.kids.length c1, .int .i64 t.kd, .int .i64 t.nm, .slice o2 t.kids.length c2]
    rw [World.size_alloc, World.size_alloc, World.size_alloc] at this
    exact this
  have HF : Hid (LcIn W (fun x => P x ∨ w.heap.size ≤ x) (.app s t) (.slice (some ⟨w.heap.size + 1 + 1 + 1, 0, none⟩) 2 2) ∧ Below w.heap.size w W ∧ RowAt W (w.heap.size + 1 + 1) 105 #[.int .i64 2, .int .i64 0, .slice (some ⟨w.heap.size + 1 + 1 + 1, 0, none⟩) 2 2]) := by
    refine ⟨⟨w.heap.size + 1 + 1 + 1, 2, .slice o1 s.kids.length c1, .slice o2 t.kids.length c2, rfl, ⟨hK.lt, .inr (by omega)⟩, ⟨?_, ?_, ?_⟩, ⟨?_, ?_, ?_⟩, LcIn.keep (w := w) hB.size (fun x _ hx => hB.block x hx) (fun x hx _ => .inl hx) h1, LcIn.keep (w := w) hB.size (fun x _ hx => hB.block x hx) (fun x hx _ => .inl hx) h2⟩, hB, hR⟩ <;> (rw [cell_of_row _ _ _ _ _ _ hK]; rfl)
  clear h1 h2 hB hR hK
  unfold lcC
  go_enter Try.func120, Try.ntmps120
  go_wp2
  rw [← hW]
  exact bodyPost_ret (v := .agg #[.int .i64 2, .int .i64 0, .slice (some ⟨w.heap.size + 1 + 1 + 1, 0, none⟩) 2 2]) (results_cell_row Try.results120 _ _ (w.heap.size + 1 + 1) 105 #[.int .i64 2, .int .i64 0, .slice (some ⟨w.heap.size + 1 + 1 + 1, 0, none⟩) 2 2] (0, 0) _ rfl HF.out.2.2 Try.underlying105 rfl zero_lcT.2) rfl ⟨⟨_, rfl, HF.out.1⟩, HF.out.2.1⟩
end Go.Proofs.Ytbkdlkpiaekblaa.CB

/-
  A tree of the model that is made part by part, in memory.
-/
namespace Go.Proofs.Ytbkdlkpiaekblaa.CB
open Go.RowKit BL
set_option linter.unusedVariables false

/-- Blocks of parts of a new tree: old ones below its own, and new ones, but for the row of the parts. -/
def OutP (w3 : World) (ob : Nat) (P : Nat → Prop) (z : Value) (x : Nat) : Prop := ((P x ∧ x < ob) ∨ w3.heap.size ≤ x) ∧ z.ownBlock ≠ some x
structure OutZ (w3 wr : World) (ob : Nat) (kd nm : Int) (P : Nat → Prop) (As : List Lm) (z : Value) (ys : List Value) : Prop where
  row : RowAt wr ob 105 (lcC kd nm z)
  own : wr.ownsRow w3.heap.size 105 3 z As.length ys
  kids : LcsIn wr (OutP w3 ob P z) As ys
  same : ∀ b, b < w3.heap.size → b ≠ ob → wr.heap[b]? = w3.heap[b]?
  size : w3.heap.size ≤ wr.heap.size
  lt : ob < w3.heap.size
theorem OutZ.start {w3 : World} {ob : Nat} {kd nm : Int} {P : Nat → Prop} (h : RowAt w3 ob 105 (lcC kd nm (.slice none 0 0))) : OutZ w3 w3 ob kd nm P [] (.slice none 0 0) [] :=
  ⟨h, ⟨rfl, .inl ⟨rfl, rfl⟩⟩, rfl, fun _ _ _ => rfl, Nat.le_refl _, h.lt⟩
theorem OutZ.below {w3 wr w' : World} {ob : Nat} {kd nm : Int} {P : Nat → Prop} {As : List Lm} {z : Value} {ys : List Value} (h : OutZ w3 wr ob kd nm P As z ys) (hB : Below wr.heap.size wr w') : OutZ w3 w' ob kd nm P As z ys :=
  ⟨h.row.below hB h.row.lt, own_keep h.own (fun g e => hB.block g (h.own.lt g e).2), LcsIn.keep hB.size (fun x _ hl => hB.block x hl) (fun _ h _ => h) h.kids, fun b hb hne => by rw [hB.block b (Nat.lt_of_lt_of_le hb h.size)]; exact h.same b hb hne, Nat.le_trans h.size hB.size, h.lt⟩
theorem OutZ.rowOf {w3 wr : World} {ob : Nat} {kd nm : Int} {P : Nat → Prop} {As : List Lm} {z : Value} {ys : List Value} (h : OutZ w3 wr ob kd nm P As z ys) {b : Nat} {T : TypeId} {cs : Array Value} (hb : b ≠ ob) (hR : RowAt w3 b T cs) : RowAt wr b T cs := by
  unfold RowAt; rw [h.same b hR.lt hb]; exact hR
theorem OutZ.push {w3 wr w6 w7 : World} {X : Obj} {ob : Nat} {kd nm : Int} {P : Nat → Prop} {As : List Lm} {z v6 z1 : Value} {ys : List Value} {T : Lm} (h : OutZ w3 wr ob kd nm P As z ys) (hT : LcIn wr (OutP w3 ob P z) T z1)
    (hv6 : w6.ownsRow w3.heap.size 105 3 v6 (As.length + 1) (ys ++ lcL T.kd T.nm z1)) (hg6 : (wr.alloc X).grownBy w6 z.ownBlock) (hb6 : v6.ownBlock = z.ownBlock ∨ v6.ownBlock = some (wr.alloc X).heap.size)
    (hR7 : RowAt w7 ob 105 (lcC kd nm v6)) (hg7 : w6.grownBy w7 (some ob)) : OutZ w3 w7 ob kd nm P (As ++ [T]) v6 (ys ++ lcL T.kd T.nm z1) := by
  have hs := h.size
  have hlt := h.lt
  have hs6 := hg6.size
  have hs7 := hg7.size
  simp only [World.size_alloc] at hs6 hb6
  have hnb : ∀ b, z.ownBlock = some b → w3.heap.size ≤ b ∧ b < wr.heap.size := fun b hb => h.own.lt b hb
  have hgx : ∀ b, b < wr.heap.size → b ≠ ob → z.ownBlock ≠ some b → w7.heap[b]? = wr.heap[b]? := fun b hb hbt hbo => by
    rw [hg7.block b (by omega) (by intro e; injection e; omega), hg6.block b (by simp; omega) (fun e => hbo e.symm), Below.heap_alloc _ _ _ hb]
  have hown6 : ∀ b, b < wr.heap.size → z.ownBlock ≠ some b → v6.ownBlock ≠ some b := fun b hb hbo e => by
    rcases hb6 with h | h
    · exact hbo (by rw [← h]; exact e)
    · rw [h] at e
      injection e with e
      omega
  have hne : ∀ x, OutP w3 ob P z x → x ≠ ob := fun x hx => by rcases hx.1 with hx | hx <;> omega
  refine ⟨hR7, ?_, LcsIn.snoc (LcIn.keep (w := wr) (by omega) (fun x hx hl => hgx x hl (hne x hx) hx.2) (fun x hx hl => ⟨hx.1, hown6 x hl hx.2⟩) hT) (LcsIn.keep (w := wr) (by omega) (fun x hx hl => hgx x hl (hne x hx) hx.2) (fun x hx hl => ⟨hx.1, hown6 x hl hx.2⟩) h.kids), fun b hb hbt => ?_, by omega, hlt⟩
  · rw [List.length_append]
    exact own_keep hv6 (fun b hb => hg7.block b (hv6.lt b hb).2 (by intro e; injection e with e; have := (hv6.lt b hb).1; omega))
  · rw [hgx b (by omega) hbt (fun e => by have := (hnb b e).1; omega)]
    exact h.same b hb hbt
theorem OutZ.done {w3 wr : World} {ob : Nat} {P : Nat → Prop} {t : Lm} {z : Value} {ys : List Value} {kd nm : Int} (h : OutZ w3 wr ob kd nm P t.kids z ys) : LcIn wr (fun x => (P x ∧ x < ob) ∨ w3.heap.size ≤ x) t z :=
  LcIn.of_row (B := w3.heap.size) (ys := ys) h.own (LcsIn.keep (Nat.le_refl _) (fun _ _ _ => rfl) (fun x hx _ => hx.1) h.kids) (fun g e => .inr (h.own.lt g e).1)
/-- What is old, or lies behind a point that is new, is no block of the row. -/
theorem OutZ.part {w3 wr w' : World} {ob N : Nat} {kd nm : Int} {P Q : Nat → Prop} {As : List Lm} {z z1 : Value} {ys : List Value} {T : Lm} (h : OutZ w3 wr ob kd nm P As z ys) (hN : wr.heap.size ≤ N) (hT : LcIn w' Q T z1) (hQ : ∀ x, Q x → x < w'.heap.size → (P x ∧ x < ob) ∨ N ≤ x) : LcIn w' (OutP w3 ob P z) T z1 := by
  refine LcIn.mono (fun x hx hl => ?_) hT
  have hs := h.size
  have hlt := h.lt
  have hnb : ∀ b, z.ownBlock = some b → w3.heap.size ≤ b ∧ b < wr.heap.size := fun b hb => h.own.lt b hb
  rcases hQ x hx hl with h1 | h1
  · exact ⟨.inl h1, fun e => by have := hnb x e; omega⟩
  · exact ⟨.inr (by omega), fun e => by have := hnb x e; omega⟩
theorem res_lc_tmp {fn : Func} {x u : Tmp} (h : fn.results = #[.cell x 105, .tmp u]) (tmps : Array Value) (w : World) (b : Nat) (k n : Int) (z v : Value)
    (hp : tmps.getD x undef = .pointer (some ⟨b, 0, none⟩)) (hv : tmps.getD u undef = v) (hN : RowAt w b 105 (lcC k n z)) : (results fn tmps).run Try.prog w = .ok (.tuple #[.agg (lcC k n z), v]) w := by
  rw [results_cell_tmp h, hp, hv]
  simp only [asAddr, Sem.run_pure, Result.andThen, run_loadVar_row w b 105 105 (lcC k n z) (0, 0) _ hN Try.underlying105 rfl zero_lcT.2]
end Go.Proofs.Ytbkdlkpiaekblaa.CB

/-
  What replaced of the program makes of a tree: anew, with what a function gives in the place of each variable.
-/
namespace Go.Proofs.Ytbkdlkpiaekblaa.CB
open Go.RowKit
set_option linter.unusedVariables false

def mapV (f : Leaf → Nat → Lm) : Lm → Nat → Lm
  | .var n, m => f n m
  | .app s t, m => .app (mapV f s m) (mapV f t m)
theorem mapV_node (f : Leaf → Nat → Lm) (t : Lm) (m : Nat) (h : t.kids ≠ []) : nodeOf t.kd t.nm (t.kids.map fun s => mapV f s (m + t.lams)) = some (mapV f t m) := by
  cases t with
  | var n => exact absurd rfl h
  | app s t => simp [Lm.kids, Lm.kd, Lm.nm, Lm.lams, nodeOf, mapV]
theorem mapV_kid (f : Leaf → Nat → Lm) {t s : Lm} (m : Nat) (h : s ∈ t.kids) : (mapV f s (m + t.lams)).sz < (mapV f t m).sz := by
  cases t with
  | var n => simp [Lm.kids] at h
  | app p q => simp [Lm.kids] at h; rcases h with rfl | rfl <;> simp [Lm.lams, mapV, Lm.sz] <;> omega
/-- Variables that are far from int's ends. -/
def Lm.bd : Lm → Prop
  | .var n => -1000000 ≤ n.nm ∧ n.nm ≤ 1000000
  | .app s t => s.bd ∧ t.bd
theorem Lm.bd_kid {t s : Lm} (h : t.bd) (hs : s ∈ t.kids) : s.bd := by
  cases t with
  | var n => simp [Lm.kids] at hs
  | app p q => simp [Lm.kids] at hs; rcases hs with rfl | rfl; exact h.1; exact h.2
theorem Lm.ok_bd : ∀ {t : Lm}, t.ok = true → t.bd
  | .var n, h => by
    cases n with
    | v n => simp [Lm.ok, Leaf.ok] at h; exact ⟨by simp only [Leaf.nm]; omega, by simp only [Leaf.nm]; omega⟩
    | s => exact ⟨by simp [Leaf.nm], by simp [Leaf.nm]⟩
    | k => exact ⟨by simp [Leaf.nm], by simp [Leaf.nm]⟩
    | i => exact ⟨by simp [Leaf.nm], by simp [Leaf.nm]⟩
  | .app s t, h => by simp only [Lm.ok, Bool.and_eq_true] at h; exact ⟨Lm.ok_bd h.1, Lm.ok_bd h.2⟩
/-- What is asked of the function. -/
def LeafOk (w0 : World) (Q0 : Nat) (lf : Nat) (lb : Array Value) (f : Leaf → Nat → Lm) : Prop := ∀ (n : Leaf) (b m : Nat) (w : World), Below w0.heap.size w0 w → TrIn w (fun x => x < Q0) (.var n) b → (f n m).sz ≤ 1000000 → m ≤ 1000000 → -1000000 ≤ n.nm → n.nm ≤ 1000000 →
    Calls Try.prog lf (#[.pointer (some ⟨b, 0, none⟩), .int .i64 (m : Int)] ++ lb) w fun e w' => (∃ b', e = .returned (.pointer (some ⟨b', 0, none⟩)) ∧ TrIn w' (fun x => x < Q0 ∨ w.heap.size ≤ x) (f n m) b') ∧ Below w.heap.size w w'
def RepC (w0 : World) (Q0 : Nat) (lf : Nat) (lb : Array Value) (f : Leaf → Nat → Lm) (N : Nat) : Prop := ∀ (t : Lm), t.sz ≤ N → ∀ (b m : Nat) (w : World), Below w0.heap.size w0 w → TrIn w (fun x => x < Q0) t b → (mapV f t m).sz ≤ 1000000 → m + t.sz ≤ 1000000 → t.bd →
    Calls Try.prog 87 #[.pointer (some ⟨b, 0, none⟩), .int .i64 (m : Int), .func (.func lf) #[] lb] w fun e w' => (∃ b', e = .returned (.pointer (some ⟨b', 0, none⟩)) ∧ TrIn w' (fun x => x < Q0 ∨ w.heap.size ≤ x) (mapV f t m) b') ∧ Below w.heap.size w w'

set_option maxHeartbeats 8000000 in
set_option maxRecDepth 100000 in
theorem replaced_step (w0 : World) (Q0 : Nat) (hQ0 : Q0 ≤ w0.heap.size) (lf : Nat) (lb : Array Value) (f : Leaf → Nat → Lm) (eg : ∀ args w, (callFunc lf args).run Try.prog w = .ok (.enter lf args) w) (hleaf : LeafOk w0 Q0 lf lb f) (N : Nat) (IH : ∀ n, n < N → RepC w0 Q0 lf lb f n) : RepC w0 Q0 lf lb f N := by
  intro t ht b m w hB0 hT hsz hm hbd
  have HIH := hideT' IH
  have HT := hideT' hT
  have HTN := hideT' ht
  have HB0 := hideT' hB0
  have HBD := hideT' hbd
  obtain ⟨o, c, hpc, _⟩ := hT.parts
  obtain ⟨u, k0, k1, k2⟩ := hT.own3
  have hbl := hT.lt
  have hws := hB0.size
  clear IH ht
  cases hkk : t.kids with
  | nil =>
    cases t with
    | app p q => simp [Lm.kids] at hkk
    | var n =>
      have HL := hideT' (hleaf n b m w hB0 hT hsz (by simp only [Lm.sz] at hm; omega) hbd.1 hbd.2)
      simp only [Lm.kids, List.length_nil] at hpc
      clear hT hB0 k0 k1 k2 hkk hbd
      go_enter Try.func87, Try.ntmps87
      go_wp2_with fail
      refine HL.out.mono ?_
      rintro e w2 ⟨⟨b', rfl, hT2⟩, hB2⟩
      have HF := hideT' (And.intro hT2 hB2)
      clear hT2 hB2
      go_wp2
      go_ret
      exact ⟨⟨b', rfl, HF.out.1⟩, HF.out.2⟩
  | cons T0 Ts0 =>
    have hne : t.kids ≠ [] := by rw [hkk]; simp
    obtain ⟨q, hq⟩ : ∃ q, q = t.kids.length := ⟨_, rfl⟩
    have hq2 : q ≤ 2 := by rw [hq]; cases t <;> simp [Lm.kids]
    have hq1 : 1 ≤ q := by rw [hq, hkk]; simp
    rw [← hq] at hpc
    have hqz : ¬ (q : Int) = 0 := by omega
    have hqb : ((q : Int) == 0) = false := by simp only [beq_eq_false_iff_ne]; exact hqz
    have HQ := hideT' hq
    have HNE := hideT' hne
    have hmk := make_ptree q (by omega)
    clear hT hB0 hkk hq hne hbd
    have HNEW : Hid (RecAt (w.alloc (.cells ((List.replicate q (none : Option Nat)).flatMap ptrL).toArray 98)) w.heap.size 98 ptrL (List.replicate q none)) := RowAt.new _ _ _
    have HBN : Hid (Below w.heap.size w (w.alloc (.cells ((List.replicate q (none : Option Nat)).flatMap ptrL).toArray 98))) := (Below.refl _ _).alloc (Nat.le_refl _) _
    go_enter Try.func87, Try.ntmps87
    go_wp2_with fail
    clear hmk
    obtain ⟨G, hG⟩ : ∃ G, G = w.heap.size := ⟨_, rfl⟩
    have HG := hideT' hG
    rw [← hG]
    clear hG
    go_loopg [31] q (fun gg i wr => ∃ (As Bs : List Lm) (ks : List (Nat × Lm)), gg = Bs.length ∧ Hid (t.kids = As ++ Bs) ∧ i = .int .i64 (As.length : Int) ∧ Hid (ks.map Prod.snd = As.map (fun s => mapV f s (m + t.lams)) ∧ RecAt wr G 98 ptrL (ks.map (fun p => some p.1) ++ List.replicate (q - As.length) none) ∧ (∀ p ∈ ks, TrIn wr (fun x => x < Q0 ∨ G < x) p.2 p.1) ∧ Below w.heap.size w wr))
    case atStart => exact ⟨[], t.kids, [], by rw [HQ.out], rfl, rfl, ⟨rfl, by rw [HG.out]; simpa using HNEW.out, by simp, HBN.out⟩⟩
    case round =>
      obtain ⟨As, Bs, ks, hgg, HA, rfl, HS⟩ := hrel
      obtain ⟨j, hj⟩ : ∃ j, j = As.length := ⟨_, rfl⟩
      rw [← hj] at HS ⊢
      have HJ := hideT' hj
      clear hj
      obtain ⟨hks, hR, hTk, hB⟩ := HS.out
      have hkl : ks.length = j := by rw [HJ.out, ← List.length_map (f := Prod.snd), hks, List.length_map]
      have hTr : TrIn wr (fun x => x < Q0) t b := TrIn.keep (w := w) hB.size (fun x hx hl => hB.block x hl) (fun _ h _ => h) HT.out
      have hBr : Below w0.heap.size w0 wr := HB0.out.trans (hB.mono hws)
      have hGw : G < wr.heap.size := hR.lt
      cases Bs with
      | nil =>
        have hjm : j = q := by rw [HJ.out, HQ.out, HA.out]; simp
        have hnl : ¬ (j : Int) < (q : Int) := by omega
        have HKids : Hid (KidsAt wr (fun x => x < Q0 ∨ G ≤ x) (.slice (some ⟨G, 0, none⟩) q q) ks) := by
          refine ⟨_, q, by rw [hkl, hjm], fun hn => ⟨G, rfl, ⟨hR.lt, .inr (Nat.le_refl _)⟩, fun i p hi => ?_⟩, fun p hp => TrIn.mono (fun x hx _ => hx.imp id Nat.le_of_lt) (hTk p hp)⟩
          have hil : i < ks.length := (List.getElem?_eq_some_iff.1 hi).1
          have := hR.cell (c := 1) ptrL_len i 0 (by rw [List.length_append, List.length_map]; omega) (by decide)
          rw [Nat.mul_one, Nat.add_zero] at this
          rw [this]
          have e : (ks.map (fun p : Nat × Lm => some p.1) ++ List.replicate (q - j) none).getD i default = some p.1 := by
            rw [List.getD, List.getElem?_append_left (by rw [List.length_map]; exact hil), List.getElem?_map, hi]
            rfl
          rw [e]; rfl
        have HTN2 : Hid (nodeOf t.kd t.nm (ks.map Prod.snd) = some (mapV f t m)) := by
          unfold Hid
          rw [hks]
          have := mapV_node f t m HNE.out
          rw [HA.out, List.append_nil] at this
          exact this
        have HPS : Hid (∀ p ∈ ptsOf ks, p.2.1 ≤ 1000000 ∧ p.2.2 ≤ 1000000) := by
          intro p hp
          obtain ⟨y, hy, rfl⟩ := List.mem_map.1 hp
          have h1 : y.2 ∈ ks.map Prod.snd := List.mem_map_of_mem hy
          rw [hks] at h1
          obtain ⟨s, hs, he⟩ := List.mem_map.1 h1
          have h2 := mapV_kid f m (t := t) (s := s) (by rw [HA.out]; simpa using hs)
          have h3 := y.2.dp_sz
          rw [he] at h2
          simp only; omega
        have e0 : wr.cell? ⟨b, 0, none⟩ = some (.int .i64 t.kd) := by rw [hB.cell (p := ⟨b, 0, none⟩) hbl]; exact k0
        have e1 : wr.cell? ⟨b, 1, none⟩ = some (.int .i64 t.nm) := by rw [hB.cell (p := ⟨b, 1, none⟩) hbl]; exact k1
        have e2 : wr.cell? ⟨b, 2, none⟩ = some (.int .i64 u) := by rw [hB.cell (p := ⟨b, 2, none⟩) hbl]; exact k2
        have HBB := hideT' hB
        have HKL := hideT' hkl
        have hbr : b < wr.heap.size := by have := hB.size; omega
        clear hks hR hTk hB hTr hBr hkl HS k0 k1 k2 hpc hgg
        go_wp2_with fail
        refine (treeOf_any t.kd t.nm u _ (ptsOf ks) wr HKids.out.pts (by unfold ptsOf; rw [List.length_map, HKL.out]; omega) HPS.out).mono ?_
        intro e w2 hN
        obtain ⟨b', rfl, hbb, hTr, hB2⟩ := treeNew_at HKids.out HTN2.out hN
        have HF : Hid (TrIn w2 (fun x => x < Q0 ∨ w.heap.size ≤ x) (mapV f t m) b' ∧ Below w.heap.size w w2) := ⟨TrIn.mono (fun x hx _ => by have := HG.out; have := HBB.out.size; rcases hx with (hx | hx) | hx <;> omega) hTr, HBB.out.trans (hB2.mono HBB.out.size)⟩
        clear hN hTr hB2
        go_wp2
        go_ret
        exact ⟨⟨b', rfl, HF.out.1⟩, HF.out.2⟩
      | cons T Bs =>
        have hil : (j : Int) < (q : Int) := by rw [HQ.out, HA.out, List.length_append, ← HJ.out]; simp; omega
        have hkj : t.kids[j]? = some T := by rw [HA.out, HJ.out]; simp
        have hTm : T ∈ t.kids := List.mem_of_getElem? hkj
        obtain ⟨o', c', hpc', hkid⟩ := hTr.parts
        have hoo : o' = o := by
          have h1 : wr.cell? ⟨b, 3, none⟩ = w.cell? ⟨b, 3, none⟩ := hB.cell (p := ⟨b, 3, none⟩) hbl
          rw [hpc', hpc] at h1
          injection h1 with h1
          injection h1 with h1
        subst hoo
        obtain ⟨g, b1, ho', hg, _, hcb1, hT1⟩ := hkid j T hkj
        subst ho'
        have hTs := Lm.kids_lt hTm
        have hms := mapV_kid f m hTm
        have hla : t.lams ≤ 1 := by cases t <;> simp [Lm.lams]
        have HCALL := hideT' (HIH.out T.sz (by have := HTN.out; omega) T (Nat.le_refl _) b1 (m + t.lams) wr hBr hT1 (by omega) (by omega) (Lm.bd_kid HBD.out hTm))
        have HLM := hideT' (lambdasOf_any t b _ wr hTr)
        have hcast : ((m + t.lams : Nat) : Int) = (m : Int) + (t.lams : Int) := by omega
        rw [hcast] at HCALL
        have HSS := hideT' (And.intro hks (And.intro hTk (And.intro hB hkl)))
        have HR := hideT' hR
        clear hcast hks hTk hB hTr hBr hpc' hkid hT1 hkj hTm hR HS hkl
        go_wp2_with fail
        refine HLM.out.mono ?_
        rintro e w4 ⟨rfl, hw4⟩
        subst hw4
        go_wp2_with fail
        refine HCALL.out.mono ?_
        rintro e w5 ⟨⟨b', rfl, hT5⟩, hB5⟩
        obtain ⟨hks, hTk, hB, hkl⟩ := HSS.out
        have hR5 : RecAt w5 G 98 ptrL (ks.map (fun p => some p.1) ++ List.replicate (q - j) none) := HR.out.below hB5 hGw
        have HT5 := hideT' hT5
        have HB5 := hideT' hB5
        have HSL : Hid (j < (ks.map (fun p : Nat × Lm => some p.1) ++ List.replicate (q - j) none).length) := by unfold Hid; rw [List.length_append, List.length_map, List.length_replicate, hkl]; omega
        clear hT5 hB5 hks hTk hB hkl
        go_wp2_with (refine store_rec1 rfl 98 _ _ rfl rfl (fun b : Option Nat => .pointer (b.map fun b => ⟨b, 0, none⟩)) (fun _ => rfl) one_ptree G j (some b') rfl rfl _ hR5 HSL.out ?_; intro w6 hR6 hg6 hs6; have HG6 := hideT' hg6; have HR6 := hideT' hR6; clear hg6 hR6)
        obtain ⟨hks, hTk, hB, hkl⟩ := HSS.out
        have HEND : Hid ((ks ++ [(b', mapV f T (m + t.lams))]).map Prod.snd = (As ++ [T]).map (fun s => mapV f s (m + t.lams)) ∧ RecAt w6 G 98 ptrL ((ks ++ [(b', mapV f T (m + t.lams))]).map (fun p => some p.1) ++ List.replicate (q - (As ++ [T]).length) none) ∧ (∀ p ∈ ks ++ [(b', mapV f T (m + t.lams))], TrIn w6 (fun x => x < Q0 ∨ G < x) p.2 p.1) ∧ Below w.heap.size w w6) := by
          have hGw0 : ¬ (G < Q0 ∨ G < G) := by have := HG.out; omega
          refine ⟨by rw [List.map_append, List.map_append, hks]; rfl, ?_, fun p hp => ?_, ?_⟩
          · have e1 : (ks.map (fun p : Nat × Lm => some p.1) ++ List.replicate (q - j) none).set j (some b') = (ks ++ [(b', mapV f T (m + t.lams))]).map (fun p : Nat × Lm => some p.1) ++ List.replicate (q - (As ++ [T]).length) none := by
              rw [List.set_append_right _ _ (by rw [List.length_map, hkl]; exact Nat.le_refl _), List.length_map, hkl, Nat.sub_self, List.length_append, ← HJ.out, List.length_singleton]
              obtain ⟨y, hy⟩ : ∃ y, q - j = y + 1 := ⟨q - j - 1, by omega⟩
              rw [hy, show q - (j + 1) = y by omega, List.replicate_succ, List.set_cons_zero, List.map_append]
              simp
            have h3 := HR6.out
            rw [e1] at h3
            exact h3
          · rcases List.mem_append.1 hp with hp | hp
            · exact TrIn.grown HG6.out hGw0 (TrIn.below HB5.out (hTk p hp))
            · rw [List.mem_singleton] at hp
              subst hp
              exact TrIn.grown HG6.out hGw0 (TrIn.mono (fun x hx _ => hx.imp id (fun h => Nat.lt_of_lt_of_le hGw h)) HT5.out)
          · exact (hB.trans (HB5.out.mono hB.size)).grown HG6.out (by have := hB.size; have := HB5.out.size; omega) (by intro k hk; cases hk; rw [HG.out]; exact Nat.le_refl _)
        have HA2 : Hid (t.kids = (As ++ [T]) ++ Bs) := by unfold Hid; rw [HA.out]; simp
        clear hks hTk hB hkl
        go_roundg Bs.length
        case measure => first | omega | (rw [hgg]; simp)
        case rel => exact ⟨As ++ [T], Bs, ks ++ [(b', mapV f T (m + t.lams))], rfl, HA2, by rw [List.length_append, ← HJ.out]; go_num, HEND⟩
theorem replaced_any (w0 : World) (Q0 : Nat) (hQ0 : Q0 ≤ w0.heap.size) (lf : Nat) (lb : Array Value) (f : Leaf → Nat → Lm) (eg : ∀ args w, (callFunc lf args).run Try.prog w = .ok (.enter lf args) w) (hleaf : LeafOk w0 Q0 lf lb f) : ∀ N, RepC w0 Q0 lf lb f N := by
  intro N
  induction N using Nat.strongRecOn with
  | _ N IH => exact replaced_step w0 Q0 hQ0 lf lb f eg hleaf N IH
end Go.Proofs.Ytbkdlkpiaekblaa.CB

/-
  What ldIs and ldPut of the model answer.
-/
namespace Go.Proofs.Ytbkdlkpiaekblaa.CB
open Go.RowKit BL
set_option linter.unusedVariables false

/-- Whether it is a variable. -/
def Lm.isV (t : Lm) (x : Int) : Bool := match t with
  | .var (.v n) => n == x
  | _ => false
def Lm.put (t : Lm) (x : Int) (s : Lm) : Lm := match t with
  | .var c => if (Lm.var c).isV x then s else .var c
  | .app a b => .app (a.put x s) (b.put x s)
theorem isV_kn (t : Lm) (x : Int) : t.isV x = ((t.kd == 1) && (t.nm == x)) := by
  cases t with
  | var c => cases c <;> simp [Lm.isV, Lm.kd, Lm.nm, Leaf.kd, Leaf.nm]
  | app a b => simp [Lm.isV, Lm.kd]
theorem Lm.kids_lt' {t s : Lm} (h : s ∈ t.kids) : s.sz < t.sz := Lm.kids_lt h
set_option maxHeartbeats 1000000 in
theorem ldIs_any (t : Lm) (z : Value) (x : Int) (P : Nat → Prop) (w : World) (h : LcIn w P t z) :
    Calls Try.prog 122 #[.agg (lcC t.kd t.nm z), .int .i64 x] w fun e w' => e = .returned (.bool (t.isV x)) ∧ Below w.heap.size w w' := by
  have hz := zero_lcT.1
  obtain ⟨oz, cz, rfl⟩ := h.form
  obtain ⟨r, hr⟩ : ∃ r, r = t.isV x := ⟨_, rfl⟩
  rw [← hr]
  rw [isV_kn] at hr
  obtain ⟨kd, hkd⟩ : ∃ kd, kd = t.kd := ⟨_, rfl⟩
  obtain ⟨nm, hnm⟩ : ∃ nm, nm = t.nm := ⟨_, rfl⟩
  obtain ⟨q, hq⟩ : ∃ q, q = t.kids.length := ⟨_, rfl⟩
  rw [← hkd, ← hnm] at hr ⊢
  rw [← hq]
  clear hkd hnm hq h
  unfold lcC
  have HB : Hid (Below w.heap.size w (w.alloc (.cells #[.int .i64 kd, .int .i64 nm, .slice oz q cz] 105))) := (Below.refl _ _).alloc (Nat.le_refl _) _
  by_cases h1 : kd = 1
  · subst h1
    have HR : Hid (r = (nm == x)) := by unfold Hid; rw [hr]; simp
    clear hr
    go_enter Try.func122, Try.ntmps122
    go_wp2
    go_ret
    exact ⟨by rw [HR.out]; rfl, HB.out⟩
  · have HR : Hid (r = false) := by unfold Hid; rw [hr]; simp [h1]
    have h1b : (kd == 1) = false := by simp [h1]
    clear hr
    go_enter Try.func122, Try.ntmps122
    go_wp2
    go_ret
    exact ⟨by rw [HR.out]; rfl, HB.out⟩
def PtC (x : Int) (s : Lm) (N : Nat) : Prop := ∀ (t : Lm), t.sz ≤ N → ∀ (z zs : Value) (P : Nat → Prop) (w : World), LcIn w P t z → LcIn w P s zs →
    Calls Try.prog 86 #[.agg (lcC t.kd t.nm z), .int .i64 x, .agg (lcC s.kd s.nm zs)] w fun e w' => (∃ z', e = .returned (.agg (lcC (t.put x s).kd (t.put x s).nm z')) ∧ LcIn w' (fun y => P y ∨ w.heap.size ≤ y) (t.put x s) z') ∧ Below w.heap.size w w'
theorem put_kids (x : Int) (s t : Lm) (h : t.isV x = false) : (t.put x s).kids = t.kids.map (fun t => t.put x s) ∧ (t.put x s).kd = t.kd ∧ (t.put x s).nm = t.nm := by
  cases t with
  | var c => simp [Lm.put, h, Lm.kids, Lm.kd, Lm.nm]
  | app a b => simp [Lm.put, Lm.kids, Lm.kd, Lm.nm]
theorem put_is (x : Int) (s t : Lm) (h : t.isV x = true) : t.put x s = s := by
  cases t with
  | var c => simp [Lm.put, h]
  | app a b => simp [Lm.isV] at h
set_option maxHeartbeats 8000000 in
set_option maxRecDepth 100000 in
theorem ldPut_step (x : Int) (s : Lm) (N : Nat) (IH : ∀ n, n < N → PtC x s n) : PtC x s N := by
  intro t ht z zs P w hz hzs
  have hz0 := zero_lcT.1
  obtain ⟨oz, cz, hzz⟩ := hz.form
  subst hzz
  obtain ⟨os, cs, hzzs⟩ := hzs.form
  subst hzzs
  have HIH := hideT' IH
  have HTN := hideT' ht
  have HZ := hideT' hz
  have HZS := hideT' hzs
  obtain ⟨W, hWd⟩ : ∃ W, W = ((w.alloc (.cells #[.int .i64 t.kd, .int .i64 t.nm, .slice oz t.kids.length cz] 105)).alloc (.cells #[.int .i64 s.kd, .int .i64 s.nm, .slice os s.kids.length cs] 105)).alloc (.cells #[.int .i64 0, .int .i64 0, .slice none 0 0] 105) := ⟨_, rfl⟩
  have hBW : Below w.heap.size w W := by rw [hWd]; exact (((Below.refl _ _).alloc (Nat.le_refl _) _).alloc (by simp) _).alloc (by simp; omega) _
  have hWs : w.heap.size + 3 ≤ W.heap.size := by rw [hWd]; simp
  have hR0 : RowAt W w.heap.size 105 #[.int .i64 t.kd, .int .i64 t.nm, .slice oz t.kids.length cz] := by rw [hWd]; exact RowAt.old (RowAt.old (RowAt.new _ _ _) _) _
  have hR1 : RowAt W (w.heap.size + 1) 105 #[.int .i64 s.kd, .int .i64 s.nm, .slice os s.kids.length cs] := by
    rw [hWd]
    have := RowAt.new (w.alloc (.cells #[.int .i64 t.kd, .int .i64 t.nm, .slice oz t.kids.length cz] 105)) 105 #[.int .i64 s.kd, .int .i64 s.nm, .slice os s.kids.length cs]
    rw [World.size_alloc] at this
    exact RowAt.old this _
  have hR2 : RowAt W (w.heap.size + 1 + 1) 105 #[.int .i64 0, .int .i64 0, .slice none 0 0] := by
    rw [hWd]
    have := RowAt.new ((w.alloc (.cells #[.int .i64 t.kd, .int .i64 t.nm, .slice oz t.kids.length cz] 105)).alloc (.cells #[.int .i64 s.kd, .int .i64 s.nm, .slice os s.kids.length cs] 105)) 105 #[.int .i64 0, .int .i64 0, .slice none 0 0]
    rwa [World.size_alloc, World.size_alloc] at this
  have HIS := hideT' (ldIs_any t (.slice oz t.kids.length cz) x P W (LcIn.keep (w := w) hBW.size (fun y _ hl => hBW.block y hl) (fun _ h _ => h) hz))
  obtain ⟨r, hr⟩ : ∃ r, r = t.isV x := ⟨_, rfl⟩
  rw [← hr] at HIS
  obtain ⟨kd, hkd⟩ : ∃ kd, kd = t.kd := ⟨_, rfl⟩
  obtain ⟨nm, hnm⟩ : ∃ nm, nm = t.nm := ⟨_, rfl⟩
  obtain ⟨q, hq⟩ : ∃ q, q = t.kids.length := ⟨_, rfl⟩
  have hq2 : q ≤ 2 := by rw [hq]; cases t <;> simp [Lm.kids]
  rw [← hkd, ← hnm, ← hq] at hWd hR0 HIS
  rw [← hq] at HZ
  rw [← hkd, ← hnm, ← hq]
  have HKN := hideT' (And.intro hkd (And.intro hnm hq))
  have HRV := hideT' hr
  have HRS := hideT' (And.intro hR0 (And.intro hR1 hR2))
  have HBW := hideT' hBW
  have HWS := hideT' hWs
  clear IH ht hz hzs hkd hnm hq hr hR0 hR1 hR2 hBW hWs
  unfold lcC at HIS ⊢
  go_enter Try.func86, Try.ntmps86
  go_wp2_with fail
  rw [← hWd]
  refine HIS.out.mono ?_
  rintro e W1 ⟨rfl, hB1⟩
  have hs1 := hB1.size
  have HR1 : Hid (RowAt W1 w.heap.size 105 #[.int .i64 kd, .int .i64 nm, .slice oz q cz] ∧ RowAt W1 (w.heap.size + 1) 105 #[.int .i64 s.kd, .int .i64 s.nm, .slice os s.kids.length cs] ∧ RowAt W1 (w.heap.size + 1 + 1) 105 #[.int .i64 0, .int .i64 0, .slice none 0 0]) := ⟨HRS.out.1.below hB1 HRS.out.1.lt, HRS.out.2.1.below hB1 HRS.out.2.1.lt, HRS.out.2.2.below hB1 HRS.out.2.2.lt⟩
  have HBW1 : Hid (Below w.heap.size w W1) := HBW.out.trans (hB1.mono HBW.out.size)
  have hw3 : w.heap.size + 3 ≤ W1.heap.size := by have := HWS.out; omega
  clear hB1 hWd hs1
  cases r with
  | true =>
    have HE : Hid (t.put x s = s) := put_is x s t HRV.out.symm
    go_wp2_with (first | (refine wpList_load_row rfl 105 _ rfl (w.heap.size + 1) rfl 105 #[.int .i64 s.kd, .int .i64 s.nm, .slice os s.kids.length cs] (0, 0) _ HR1.out.2.1 Try.underlying105 rfl zero_lcT.2 ?_) | (refine store_3 rfl 105 _ _ rfl rfl zero_lcT.2 (w.heap.size + 1 + 1) (lcC s.kd s.nm (.slice os s.kids.length cs)) rfl (lcC_one _ _ _ rfl) rfl rfl _ rfl HR1.out.2.2 ?_; intro w5 hR5 hg5 hs5))
    refine bodyPost_ret (v := .agg (lcC s.kd s.nm (.slice os s.kids.length cs))) (results_cell_row Try.results86 _ _ (w.heap.size + 1 + 1) 105 (lcC s.kd s.nm (.slice os s.kids.length cs)) (0, 0) _ rfl hR5 Try.underlying105 rfl zero_lcT.2) rfl ⟨⟨.slice os s.kids.length cs, by rw [HE.out]; rfl, ?_⟩, HBW1.out.grown hg5 (by omega) (by intro k hk; cases hk; omega)⟩
    rw [HE.out]
    refine LcIn.keep (w := w) (by omega) (fun y hy hl => ?_) (fun y hy _ => .inl hy) HZS.out
    rw [hg5.block y (by omega) (by intro e; injection e with e; omega)]
    exact HBW1.out.block y hl
  | false =>
    obtain ⟨e1, e2, e3⟩ := put_kids x s t HRV.out.symm
    have HSK : Hid ((t.put x s).kids = t.kids.map (fun t => t.put x s) ∧ (t.put x s).kd = kd ∧ (t.put x s).nm = nm) := ⟨e1, by rw [e2, HKN.out.1], by rw [e3, HKN.out.2.1]⟩
    clear e1 e2 e3
    obtain ⟨W3, hW3⟩ : ∃ W3, W3 = W1.alloc (.cells #[.int .i64 kd, .int .i64 nm, .slice none 0 0] 105) := ⟨_, rfl⟩
    obtain ⟨ob, hob⟩ : ∃ ob, ob = W1.heap.size := ⟨_, rfl⟩
    have HOB : Hid (w.heap.size + 3 ≤ ob) := by unfold Hid; omega
    have hRo : RowAt W3 ob 105 (lcC kd nm (.slice none 0 0)) := by rw [hW3, hob]; exact RowAt.new W1 _ _
    have HB3 : Hid (Below w.heap.size w W3) := by rw [hW3]; exact HBW1.out.alloc (by omega) _
    have HR3 : Hid (RowAt W3 w.heap.size 105 #[.int .i64 kd, .int .i64 nm, .slice oz q cz] ∧ RowAt W3 (w.heap.size + 1) 105 #[.int .i64 s.kd, .int .i64 s.nm, .slice os s.kids.length cs] ∧ RowAt W3 (w.heap.size + 1 + 1) 105 #[.int .i64 0, .int .i64 0, .slice none 0 0]) := by rw [hW3]; exact ⟨RowAt.old HR1.out.1 _, RowAt.old HR1.out.2.1 _, RowAt.old HR1.out.2.2 _⟩
    have HOS := hideT' (OutZ.start (P := fun y => P y ∧ y < w.heap.size) hRo)
    have r0 : W1.cell? ⟨w.heap.size, 0, none⟩ = some (.int .i64 kd) := by rw [cell_of_row _ _ _ _ _ _ HR1.out.1]; rfl
    have r1 : W1.cell? ⟨w.heap.size, 1, none⟩ = some (.int .i64 nm) := by rw [cell_of_row _ _ _ _ _ _ HR1.out.1]; rfl
    have r2 : W1.cell? ⟨w.heap.size, 2, none⟩ = some (.slice oz q cz) := by rw [cell_of_row _ _ _ _ _ _ HR1.out.1]; rfl
    have hlt1 : w.heap.size < W1.heap.size := by omega
    clear hRo hw3
    go_wp2_with fail
    rw [← hW3, ← hob]
    clear hW3 hob r0 r1 r2 hlt1
    go_loopg [22] q (fun gg i wr => ∃ (As Bs : List Lm) (z : Value) (ys : List Value), gg = Bs.length ∧ Hid (t.kids = As ++ Bs) ∧ i = .int .i64 (As.length : Int) ∧ Hid (OutZ W3 wr ob kd nm (fun y => P y ∧ y < w.heap.size) (As.map (fun t => t.put x s)) z ys) ∧ Hid (Below w.heap.size w wr))
    case atStart => exact ⟨[], t.kids, .slice none 0 0, [], by rw [HKN.out.2.2], rfl, rfl, HOS, HB3⟩
    case round =>
      obtain ⟨As, Bs, z, ys, hgg, HA, rfl, HO, HB⟩ := hrel
      obtain ⟨j, hj⟩ : ∃ j, j = As.length := ⟨_, rfl⟩
      obtain ⟨ox, cx, hzx⟩ := own_formT HO.out.own
      rw [List.length_map, ← hj] at hzx
      subst hzx
      rw [← hj]
      have HJ := hideT' hj
      clear hj
      cases Bs with
      | nil =>
        have hjm : j = q := by rw [HJ.out, HKN.out.2.2, HA.out]; simp
        have hnl : ¬ (j : Int) < (q : Int) := by omega
        have HEK : Hid ((t.put x s).kids = As.map (fun t => t.put x s)) := by unfold Hid; rw [HSK.out.1, HA.out]; simp
        have hRz : RowAt wr (w.heap.size + 1 + 1) 105 #[.int .i64 0, .int .i64 0, .slice none 0 0] := HO.out.rowOf (by have := HOB.out; omega) HR3.out.2.2
        have hRo : RowAt wr ob 105 (lcC kd nm (.slice ox j cx)) := HO.out.row
        clear hgg hjm
        go_wp2_with (first | (refine wpList_load_row rfl 105 _ rfl ob rfl 105 (lcC kd nm (.slice ox j cx)) (0, 0) _ hRo Try.underlying105 rfl zero_lcT.2 ?_) | (refine store_3 rfl 105 _ _ rfl rfl zero_lcT.2 (w.heap.size + 1 + 1) (lcC kd nm (.slice ox j cx)) rfl (lcC_one _ _ _ rfl) rfl rfl _ rfl hRz ?_; intro w5 hR5 hg5 hs5))
        have hobl := HO.out.lt
        have hoh := HOB.out
        have hfin : LcIn w5 (fun y => P y ∨ w.heap.size ≤ y) (t.put x s) (.slice ox j cx) := by
          have ho := HO.out
          rw [← HEK.out] at ho
          refine LcIn.keep (w := wr) (by omega) (fun y hy hl => hg5.block y hl (by intro e; injection e with e; rcases hy with hy | hy <;> omega)) (fun y hy _ => ?_) ho.done
          rcases hy with hy | hy
          · exact .inl hy.1.1
          · exact .inr (by omega)
        exact bodyPost_ret (v := .agg (lcC kd nm (.slice ox j cx))) (results_cell_row Try.results86 _ _ (w.heap.size + 1 + 1) 105 (lcC kd nm (.slice ox j cx)) (0, 0) _ rfl hR5 Try.underlying105 rfl zero_lcT.2) rfl ⟨⟨.slice ox j cx, by rw [HSK.out.2.1, HSK.out.2.2]; rfl, hfin⟩, HB.out.grown hg5 (by have := HB.out.size; omega) (by intro k hk; cases hk; omega)⟩
      | cons T Bs =>
      have hil : (j : Int) < (q : Int) := by rw [HKN.out.2.2, HA.out, List.length_append, ← HJ.out]; simp; omega
      have hkj : t.kids[j]? = some T := by rw [HA.out, HJ.out]; simp
      have hTm : T ∈ t.kids := List.mem_of_getElem? hkj
      have hzr : LcIn wr (fun b => P b ∧ b < w.heap.size) t (.slice oz q cz) := LcIn.keep (w := w) HB.out.size (fun y hy hl => HB.out.block y hl) (fun y hy hl => ⟨hy, hl⟩) HZ.out
      obtain ⟨o', c', e', hpart⟩ := hzr.parts
      injection e' with e1 e2 e3
      subst e1
      clear e2 e3
      obtain ⟨g, z1, hoz, hg, ⟨k0, k1, k2⟩, hz1⟩ := hpart j T hkj
      subst hoz
      have hg1 := hg.1
      obtain ⟨oz1, cz1, hzz1'⟩ := hz1.form
      subst hzz1'
      obtain ⟨W2, hW2⟩ : ∃ W2, W2 = wr.alloc (.cells #[.int .i64 T.kd, .int .i64 T.nm, .slice oz1 T.kids.length cz1] 105) := ⟨_, rfl⟩
      have hB2 : Below wr.heap.size wr W2 := by rw [hW2]; exact (Below.refl _ _).alloc (Nat.le_refl _) _
      have HB2 := hideT' hB2
      have hRo2 : RowAt W2 ob 105 (lcC kd nm (.slice ox j cx)) := HO.out.row.below hB2 HO.out.row.lt
      have hRk2 : RowAt W2 wr.heap.size 105 #[.int .i64 T.kd, .int .i64 T.nm, .slice oz1 T.kids.length cz1] := by rw [hW2]; exact RowAt.new wr _ _
      have hRs2 : RowAt W2 (w.heap.size + 1) 105 #[.int .i64 s.kd, .int .i64 s.nm, .slice os s.kids.length cs] := (HO.out.rowOf (by have := HOB.out; omega) HR3.out.2.1).below hB2 (by have := HO.out.row.lt; have := HOB.out; omega)
      have HCALL : Hid (∀ w', Below W2.heap.size W2 w' → Calls Try.prog 86 #[.agg (lcC T.kd T.nm (.slice oz1 T.kids.length cz1)), .int .i64 x, .agg (lcC s.kd s.nm (.slice os s.kids.length cs))] w' fun e w'' => (∃ z', e = .returned (.agg (lcC (T.put x s).kd (T.put x s).nm z')) ∧ LcIn w'' (fun y => (P y ∧ y < w.heap.size) ∨ w'.heap.size ≤ y) (T.put x s) z') ∧ Below w'.heap.size w' w'') := by
        intro w' hB'
        have hBB : Below wr.heap.size wr w' := hB2.trans (hB'.mono hB2.size)
        have hBC : Below w.heap.size w w' := HB.out.trans (hBB.mono HB.out.size)
        exact HIH.out T.sz (by have := HTN.out; have := Lm.kids_lt hTm; omega) T (Nat.le_refl _) (.slice oz1 T.kids.length cz1) (.slice os s.kids.length cs) (fun y => P y ∧ y < w.heap.size) w' (LcIn.below hBB hz1) (LcIn.keep (w := w) hBC.size (fun y hy hl => hBC.block y hl) (fun y hy hl => ⟨hy, hl⟩) HZS.out)
      have hDW2 : Below W2.heap.size W2 W2.drew := (Below.refl _ _).drew
      clear hzr hpart hz1 hkj hTm hB2
      go_wp2_with fail
      rw [← hW2]
      clear hW2 k0 k1 k2
      refine late_begin [9] (fun w' => RowAt w' ob 105 (lcC kd nm (.slice ox j cx)) ∧ RowAt w' wr.heap.size 105 #[.int .i64 T.kd, .int .i64 T.nm, .slice oz1 T.kids.length cz1] ∧ RowAt w' (w.heap.size + 1) 105 #[.int .i64 s.kd, .int .i64 s.nm, .slice os s.kids.length cs]) (by kernel_rfl) ?_
      have hS : RowAt W2.drew ob 105 (lcC kd nm (.slice ox j cx)) ∧ RowAt W2.drew wr.heap.size 105 #[.int .i64 T.kd, .int .i64 T.nm, .slice oz1 T.kids.length cz1] ∧ RowAt W2.drew (w.heap.size + 1) 105 #[.int .i64 s.kd, .int .i64 s.nm, .slice os s.kids.length cs] := ⟨hRo2, hRk2, hRs2⟩
      refine late_val 0 (some 26) rfl rfl (by kernel_rfl) (by kernel_rfl) (by kernel_rfl) [1, 7, 9] (by kernel_rfl) noPanic_put rfl (.pointer (some ⟨ob, 2, none⟩)) (fun _ _ => by go_simp) hS ?_
      simp only [Act.put, List.setIfInBounds_toArray, List.set_cons_zero, List.set_cons_succ]
      refine late_val 1 (some 27) rfl rfl (by kernel_rfl) (by kernel_rfl) (by kernel_rfl) [7, 9] (by kernel_rfl) noPanic_put rfl (.slice ox j cx) (fun w' h => by have q2 : w'.cell? ⟨ob, 2, none⟩ = some (.slice ox j cx) := (by rw [cell_of_row w' _ _ _ _ _ h.1]; rfl); go_simp) hS ?_
      simp only [Act.put, List.setIfInBounds_toArray, List.set_cons_zero, List.set_cons_succ]
      refine late_val 2 (some 28) rfl rfl (by kernel_rfl) (by kernel_rfl) (by kernel_rfl) [5, 6, 7, 9] (by kernel_rfl) noPanic_put rfl (.agg (lcC T.kd T.nm (.slice oz1 T.kids.length cz1))) (fun w' h => by unfold lcC; have q0 : w'.cell? ⟨wr.heap.size, 0, none⟩ = some (.int .i64 T.kd) := (by rw [cell_of_row w' _ _ _ _ _ h.2.1]; rfl); have q1 : w'.cell? ⟨wr.heap.size, 1, none⟩ = some (.int .i64 T.nm) := (by rw [cell_of_row w' _ _ _ _ _ h.2.1]; rfl); have q2 : w'.cell? ⟨wr.heap.size, 2, none⟩ = some (.slice oz1 T.kids.length cz1) := (by rw [cell_of_row w' _ _ _ _ _ h.2.1]; rfl); go_simp) hS ?_
      simp only [Act.put, List.setIfInBounds_toArray, List.set_cons_zero, List.set_cons_succ]
      refine late_val 3 (some 29) rfl rfl (by kernel_rfl) (by kernel_rfl) (by kernel_rfl) [5, 6, 7, 9] (by kernel_rfl) noPanic_put rfl (.int .i64 x) (fun _ _ => by go_simp) hS ?_
      simp only [Act.put, List.setIfInBounds_toArray, List.set_cons_zero, List.set_cons_succ]
      refine late_val 4 (some 30) rfl rfl (by kernel_rfl) (by kernel_rfl) (by kernel_rfl) [5, 6, 7, 9] (by kernel_rfl) noPanic_put rfl (.agg (lcC s.kd s.nm (.slice os s.kids.length cs))) (fun w' h => by unfold lcC; have q0 : w'.cell? ⟨w.heap.size + 1, 0, none⟩ = some (.int .i64 s.kd) := (by rw [cell_of_row w' _ _ _ _ _ h.2.2]; rfl); have q1 : w'.cell? ⟨w.heap.size + 1, 1, none⟩ = some (.int .i64 s.nm) := (by rw [cell_of_row w' _ _ _ _ _ h.2.2]; rfl); have q2 : w'.cell? ⟨w.heap.size + 1, 2, none⟩ = some (.slice os s.kids.length cs) := (by rw [cell_of_row w' _ _ _ _ _ h.2.2]; rfl); go_simp) hS ?_
      simp only [Act.put, List.setIfInBounds_toArray, List.set_cons_zero, List.set_cons_succ]
      refine late_call 5 (some 31) (by kernel_rfl) rfl rfl rfl 86 #[.agg (lcC T.kd T.nm (.slice oz1 T.kids.length cz1)), .int .i64 x, .agg (lcC s.kd s.nm (.slice os s.kids.length cs))] (by go_simp) _ (HCALL.out W2.drew hDW2) ?_
      rintro e w5 ⟨⟨z5, rfl, hz5⟩, hw5⟩
      have hw5 : Below W2.heap.size W2 w5 := ⟨hw5.os, hw5.tape, hw5.output, hw5.size, hw5.block⟩
      have hz5 : LcIn w5 (fun y => (P y ∧ y < w.heap.size) ∨ W2.heap.size ≤ y) (T.put x s) z5 := hz5
      have hsz5 := hw5.size
      obtain ⟨o5, c5, hzz5⟩ := hz5.form
      subst hzz5
      have hB25 : Below wr.heap.size wr w5 := HB2.out.trans (hw5.mono HB2.out.size)
      have hO5 := HO.out.below hB25
      have hS1 : RowAt w5 ob 105 (lcC kd nm (.slice ox j cx)) ∧ RowAt w5 wr.heap.size 105 #[.int .i64 T.kd, .int .i64 T.nm, .slice oz1 T.kids.length cz1] ∧ RowAt w5 (w.heap.size + 1) 105 #[.int .i64 s.kd, .int .i64 s.nm, .slice os s.kids.length cs] := ⟨hO5.row, hRk2.below hw5 hRk2.lt, hRs2.below hw5 hRs2.lt⟩
      refine ⟨_, rfl, .inr hS1, ?_⟩
      simp only [Act.put, List.setIfInBounds_toArray, List.set_cons_zero, List.set_cons_succ]
      have hX : Below w5.heap.size w5 (w5.alloc (.cells (lcC (T.put x s).kd (T.put x s).nm (.slice o5 (T.put x s).kids.length c5)) 105)) := (Below.refl _ _).alloc (Nat.le_refl _) _
      have hS2 : RowAt (w5.alloc (.cells (lcC (T.put x s).kd (T.put x s).nm (.slice o5 (T.put x s).kids.length c5)) 105)) ob 105 (lcC kd nm (.slice ox j cx)) ∧ RowAt (w5.alloc (.cells (lcC (T.put x s).kd (T.put x s).nm (.slice o5 (T.put x s).kids.length c5)) 105)) wr.heap.size 105 #[.int .i64 T.kd, .int .i64 T.nm, .slice oz1 T.kids.length cz1] ∧ RowAt (w5.alloc (.cells (lcC (T.put x s).kd (T.put x s).nm (.slice o5 (T.put x s).kids.length c5)) 105)) (w.heap.size + 1) 105 #[.int .i64 s.kd, .int .i64 s.nm, .slice os s.kids.length cs] := ⟨RowAt.old hS1.1 _, RowAt.old hS1.2.1 _, RowAt.old hS1.2.2 _⟩
      refine late_ready 6 (some 32) (by kernel_rfl) rfl rfl rfl (.slice (some ⟨w5.heap.size, 0, none⟩) 1 1) (w5.alloc (.cells (lcC (T.put x s).kd (T.put x s).nm (.slice o5 (T.put x s).kids.length c5)) 105)) (by unfold lcC; go_simp) (.inr hS2) ?_
      simp only [Act.put, List.setIfInBounds_toArray, List.set_cons_zero, List.set_cons_succ]
      have hown5 : w5.ownsRow W3.heap.size 105 3 (.slice ox j cx) j ys := by have := hO5.own; rwa [List.length_map, ← HJ.out] at this
      obtain ⟨i0, hi, hzz0, hzz1, hzz2⟩ := info_parts info_lcT
      have hb3 := HO.out.size
      have hb4 := HB2.out.size
      refine late_one 7 (by kernel_rfl) rfl rfl fun K hK => ?_
      refine append_own3_wp _ _ _ 103 rfl W3.heap.size 105 i0 (.agg #[.int .i64 0, .int .i64 0, .slice none 0 0]) 3 40 Try.underlying103 hi hzz0 hzz1 hzz2 rfl (by decide) (.slice ox j cx) j ys rfl (hown5.alloc _) ⟨w5.heap.size, 0, none⟩ 1 1 (lcL (T.put x s).kd (T.put x s).nm (.slice o5 (T.put x s).kids.length c5)) rfl rfl (lc_cells w5 (T.put x s).kd (T.put x s).nm (.slice o5 (T.put x s).kids.length c5)) (lcL_one _ _ _ rfl) (by omega) (by unfold maxLen; omega) (by omega) (by simp; omega) ?_
      intro v6 w6 hv6 hg6 hb6
      have hs6 := hg6.size
      simp only [World.size_alloc] at hs6
      have hnb : ∀ b, (Value.slice ox j cx).ownBlock = some b → W3.heap.size ≤ b ∧ b < w5.heap.size := fun b hb => hown5.lt b hb
      have hobl := HO.out.lt
      have hkb : ∀ b, (Value.slice ox j cx).ownBlock = some b → b < wr.heap.size := fun b hb => (HO.out.own.lt b hb).2
      have hS6 : RowAt w6 ob 105 (lcC kd nm (.slice ox j cx)) ∧ RowAt w6 wr.heap.size 105 #[.int .i64 T.kd, .int .i64 T.nm, .slice oz1 T.kids.length cz1] ∧ RowAt w6 (w.heap.size + 1) 105 #[.int .i64 s.kd, .int .i64 s.nm, .slice os s.kids.length cs] := ⟨hS2.1.grown hg6 (fun e => by have := (hnb _ e.symm).1; omega), hS2.2.1.grown hg6 (fun e => by have := hkb _ e.symm; omega), hS2.2.2.grown hg6 (fun e => by have := (hnb _ e.symm).1; have := HOB.out; omega)⟩
      refine hK.out _ _ (.inr hS6) ?_
      simp only [Act.put, List.setIfInBounds_toArray]
      have hS := hS6
      refine late_val 8 (some 34) rfl rfl (by kernel_rfl) (by kernel_rfl) (by kernel_rfl) [9] (by kernel_rfl) noPanic_put rfl (.pointer (some ⟨ob, 2, none⟩)) (fun _ _ => by go_simp) hS ?_
      simp only [Act.put]
      obtain ⟨o6, c6, hv6e⟩ := own_formT hv6
      subst hv6e
      refine late_one 9 (by kernel_rfl) rfl rfl fun K9 hK9 => ?_
      refine store_at_wp 103 _ _ rfl rfl ob 2 (.slice o6 (j + 1) c6) rfl rfl one_sllc rfl 105 (lcC kd nm (.slice ox j cx)) hS6.1 (show 2 < 3 by omega) ?_
      intro w7 hR7 hg7 hs7
      refine hK9.out _ _ (.inl ⟨9, by simp, rfl⟩) ?_
      refine late_done (by kernel_rfl) ?_ _
      refine NoPanic.normal ?_
      have hp9 : LcIn w5 (OutP W3 ob (fun y => P y ∧ y < w.heap.size) (.slice ox j cx)) (T.put x s) (.slice o5 (T.put x s).kids.length c5) := HO.out.part (Nat.le_refl _) hz5 (fun y hy _ => by rcases hy with hy | hy; exact .inl ⟨hy, by have := HOB.out; omega⟩; exact .inr (by have := HB2.out.size; omega))
      have HEND : Hid (OutZ W3 w7 ob kd nm (fun y => P y ∧ y < w.heap.size) ((As ++ [T]).map (fun t => t.put x s)) (.slice o6 (j + 1) c6) (ys ++ lcL (T.put x s).kd (T.put x s).nm (.slice o5 (T.put x s).kids.length c5))) := by
        unfold Hid
        rw [List.map_append]
        refine OutZ.push hO5 hp9 ?_ hg6 hb6 hR7 hg7
        rw [List.length_map, ← HJ.out]
        exact hv6
      have HA2 : Hid (t.kids = (As ++ [T]) ++ Bs) := by unfold Hid; rw [HA.out]; simp
      have HB7 : Hid (Below w.heap.size w w7) := (((HB.out.trans (hB25.mono HB.out.size)).alloc (by have := HB.out.size; have := hB25.size; omega) _).grown hg6 (by have := HB.out.size; have := hB25.size; simp; omega) (fun b hb => by have := (hnb b hb).1; have := HOB.out; omega)).grown hg7 (by have := HB.out.size; have := hB25.size; omega) (by intro k hk; cases hk; have := HOB.out; omega)
      clear hS hS1 hS2 hS6 hO5 hown5 hv6 hg6 hb6 hR7 hg7 hs7 hs6 hp9 hz5 hw5 hB25 hnb hkb hX hK hK9 hRo2 hRk2 hRs2
      go_wp2
      go_roundg Bs.length
      case measure => first | omega | (rw [hgg]; simp)
      case rel => exact ⟨As ++ [T], Bs, .slice o6 (j + 1) c6, _, rfl, HA2, by rw [List.length_append, ← HJ.out]; go_num, HEND, HB7⟩
theorem ldPut_all (x : Int) (s : Lm) : ∀ N, PtC x s N := by
  intro N
  induction N using Nat.strongRecOn with
  | _ N IH => exact ldPut_step x s N IH
end Go.Proofs.Ytbkdlkpiaekblaa.CB

/-
  What both PutComb answer.
-/
namespace Go.Proofs.Ytbkdlkpiaekblaa.CB
open Go.RowKit BL
set_option linter.unusedVariables false

def PtT (l : List Nd) (x : Int) (s : List Nd) : Option Lm := match readP' l, readP' s with
  | some t, some p => if 0 ≤ x ∧ x ≤ 999 then some (t.put x p) else none
  | _, _ => none
theorem PtT_l {l : List Nd} {k : Int} {s : List Nd} (h : readP' l = none) : PtT l k s = none := by unfold PtT; rw [h]
theorem PtT_s {l : List Nd} {k : Int} {s : List Nd} (h : readP' s = none) : PtT l k s = none := by unfold PtT; rw [h]; cases readP' l <;> rfl
theorem PtT_k {l : List Nd} {k : Int} {s : List Nd} (h : ¬ (0 ≤ k ∧ k ≤ 999)) : PtT l k s = none := by unfold PtT; cases readP' l <;> cases readP' s <;> simp [h]
theorem PtT_ok {l : List Nd} {k : Int} {s : List Nd} {t p : Lm} (h1 : readP' l = some t) (h2 : readP' s = some p) (h : 0 ≤ k ∧ k ≤ 999) : PtT l k s = some (t.put k p) := by unfold PtT; rw [h1, h2]; simp [h]
theorem Lm.put_sz (x : Int) (s : Lm) : ∀ t : Lm, (t.put x s).sz ≤ t.sz * s.sz
  | .var c => by
    have := s.sz_pos
    rw [Lm.put]
    split <;> simp only [Lm.sz] <;> omega
  | .app a b => by
    have := s.sz_pos
    have h := Lm.put_sz x s a
    have h2 := Lm.put_sz x s b
    simp only [Lm.put, Lm.sz, Nat.add_mul, Nat.one_mul]; omega
def putV (x : Int) (s : Lm) (c : Leaf) (_ : Nat) : Lm := if (Lm.var c).isV x then s else .var c
theorem putV_map (x : Int) (s : Lm) : ∀ (t : Lm) (m : Nat), mapV (putV x s) t m = t.put x s
  | .var c, m => by rw [mapV, putV, Lm.put]
  | .app a b, m => by rw [mapV, putV_map x s a m, putV_map x s b m, Lm.put]
set_option maxHeartbeats 1000000 in
theorem isVariable_any (t : Lm) (b : Nat) (x : Int) (P : Nat → Prop) (w : World) (h : TrIn w P t b) :
    Calls Try.prog 89 #[.pointer (some ⟨b, 0, none⟩), .int .i64 x] w fun e w' => e = .returned (.bool (t.isV x)) ∧ w' = w := by
  have k0 := h.kind
  have k1 := h.name
  have hbl := h.lt
  obtain ⟨r, hr⟩ : ∃ r, r = t.isV x := ⟨_, rfl⟩
  rw [← hr]
  rw [isV_kn] at hr
  obtain ⟨kd, hkd⟩ : ∃ kd, kd = t.kd := ⟨_, rfl⟩
  obtain ⟨nm, hnm⟩ : ∃ nm, nm = t.nm := ⟨_, rfl⟩
  rw [← hkd] at k0 hr
  rw [← hnm] at k1 hr
  clear hkd hnm h
  by_cases h1 : kd = 1
  · subst h1
    have HR : Hid (r = (nm == x)) := by unfold Hid; rw [hr]; simp
    clear hr
    go_enter Try.func89, Try.ntmps89
    go_wp2
    go_ret
    exact ⟨by rw [HR.out]; rfl, rfl⟩
  · have HR : Hid (r = false) := by unfold Hid; rw [hr]; simp [h1]
    have h1b : (kd == 1) = false := by simp [h1]
    clear hr
    go_enter Try.func89, Try.ntmps89
    go_wp2
    go_ret
    exact ⟨by rw [HR.out]; rfl, rfl⟩
set_option maxHeartbeats 2000000 in
theorem putLeaf (w0 : World) (bx bs bt : Nat) (x : Int) (s : Lm) (hbx : bx < w0.heap.size) (hbs : bs < w0.heap.size) (cx : w0.cell? ⟨bx, 0, none⟩ = some (.int .i64 x)) (cs : w0.cell? ⟨bs, 0, none⟩ = some (.pointer (some ⟨bt, 0, none⟩)))
    (hTs : TrIn w0 (fun y => y < w0.heap.size) s bt) : LeafOk w0 w0.heap.size 88 #[.pointer (some ⟨bx, 0, none⟩), .pointer (some ⟨bs, 0, none⟩)] (putV x s) := by
  intro c b m w hB hT _ hm _ _
  have kx : w.cell? ⟨bx, 0, none⟩ = some (.int .i64 x) := by rw [hB.cell (p := ⟨bx, 0, none⟩) hbx]; exact cx
  have ks : w.cell? ⟨bs, 0, none⟩ = some (.pointer (some ⟨bt, 0, none⟩)) := by rw [hB.cell (p := ⟨bs, 0, none⟩) hbs]; exact cs
  have hws := hB.size
  have HT := hideT' hT
  have HTS : Hid (TrIn w (fun y => y < w0.heap.size) s bt) := TrIn.keep (w := w0) hB.size (fun y _ hy => hB.block y hy) (fun _ h _ => h) hTs
  have HI := hideT' (isVariable_any (.var c) b x _ w hT)
  obtain ⟨r, hr⟩ : ∃ r, r = (Lm.var c).isV x := ⟨_, rfl⟩
  rw [← hr] at HI
  have HE : Hid (putV x s c m = if r then s else .var c) := by unfold Hid putV; rw [← hr]
  clear hT cx cs hB hTs hr
  show Calls Try.prog 88 #[.pointer (some ⟨b, 0, none⟩), .int .i64 (m : Int), .pointer (some ⟨bx, 0, none⟩), .pointer (some ⟨bs, 0, none⟩)] w _
  go_enter Try.func88, Try.ntmps88
  go_wp2_with fail
  refine HI.out.mono ?_
  rintro e w1 ⟨rfl, hw1⟩
  rw [hw1]
  clear hw1
  cases r with
  | true =>
    go_wp2
    go_ret
    exact ⟨⟨bt, rfl, by rw [HE.out]; exact TrIn.mono (fun y hy _ => .inl hy) HTS.out⟩, Below.refl _ _⟩
  | false =>
    go_wp2
    go_ret
    exact ⟨⟨b, rfl, by rw [HE.out]; exact TrIn.mono (fun y hy _ => .inl hy) HT.out⟩, Below.refl _ _⟩
theorem call_put1 : ∀ args w, (callFunc 88 args).run Try.prog w = .ok (.enter 88 args) w := enters_of Try.func88 (by kernel_rfl) rfl
set_option maxHeartbeats 4000000 in
theorem implPutComb_any (l : List Nd) (x : Int) (s : List Nd) (v vs : Value) (w : World) (hv : NdIn w v l) (hvs : NdIn w vs s) (hl : l.length ≤ 1048576) (hls : s.length ≤ 1048576) :
    Calls Try.prog 45 #[v, .int .i64 x, vs] w fun e w' => TOut w (PtT l x s) e w' ∧ Below w.heap.size w w' := by
  obtain ⟨W, hWd⟩ : ∃ W, W = w.alloc (.cells #[.int .i64 x] 3) := ⟨_, rfl⟩
  have hBW : Below w.heap.size w W := by rw [hWd]; exact (Below.refl _ _).alloc (Nat.le_refl _) _
  have hRx : RowAt W w.heap.size 3 #[.int .i64 x] := by rw [hWd]; exact RowAt.new _ _ _
  have HVS : Hid (NdIn W vs s) := hvs.below hBW
  have HC := hideT' (readTree_any l v W (hv.below hBW) hl)
  have HBW := hideT' hBW
  have HRX := hideT' hRx
  clear hv hvs hBW hRx
  go_enter Try.func45, Try.ntmps45
  go_wp2_with fail
  rw [← hWd]
  refine HC.out.mono ?_
  rintro e w1 ⟨hans, hB1⟩
  have HC2 := hideT' (readTree_any s vs w1 (HVS.out.below hB1) hls)
  have HB1 : Hid (Below w.heap.size w w1) := HBW.out.trans (hB1.mono HBW.out.size)
  have HX1 := hideT' (HRX.out.below hB1 HRX.out.lt)
  clear hB1 hWd
  rcases hans with ⟨p, rfl, hn⟩ | ⟨t, b, rfl, hr, hT⟩
  · have HN := hideT' (PtT_l (k := x) (s := s) hn)
    clear hn
    go_wp2_with fail
    refine HC2.out.mono ?_
    rintro e w2 ⟨hans2, hB2⟩
    have HB2 : Hid (Below w.heap.size w w2) := HB1.out.trans (hB2.mono HB1.out.size)
    rcases hans2 with ⟨p2, rfl, hn2⟩ | ⟨t2, b2, rfl, hr2, hT2⟩
    · clear hn2 hB2
      go_wp2
      go_ret2
      exact ⟨TOut.bad HN.out, HB2.out.alloc HB2.out.size _⟩
    · clear hr2 hT2 hB2
      go_wp2
      go_ret2
      exact ⟨TOut.bad HN.out, HB2.out.alloc HB2.out.size _⟩
  · have HT := hideT' hT
    have HR := hideT' hr
    clear hT hr
    go_wp2_with fail
    refine HC2.out.mono ?_
    rintro e w2 ⟨hans2, hB2⟩
    have HB2 : Hid (Below w.heap.size w w2) := HB1.out.trans (hB2.mono HB1.out.size)
    have HX2 := hideT' (HX1.out.below hB2 HX1.out.lt)
    rcases hans2 with ⟨p2, rfl, hn2⟩ | ⟨t2, b2, rfl, hr2, hT2⟩
    · have HN := hideT' (PtT_s (l := l) (k := x) hn2)
      clear hn2 hB2
      go_wp2
      go_ret2
      exact ⟨TOut.bad HN.out, HB2.out.alloc HB2.out.size _⟩
    · obtain ⟨w0, hw0⟩ : ∃ w0, w0 = w2.alloc (.cells #[.pointer (some ⟨b2, 0, none⟩)] 98) := ⟨_, rfl⟩
      have hB0 : Below w2.heap.size w2 w0 := by rw [hw0]; exact (Below.refl _ _).alloc (Nat.le_refl _) _
      have hs0 : w2.heap.size + 1 = w0.heap.size := by rw [hw0]; simp
      have hT1 : TrIn w0 (fun y => y < w0.heap.size) t b := TrIn.keep (w := w1) (by have := hB2.size; omega) (fun y _ hy => by rw [hB0.block y (by have := hB2.size; omega)]; exact hB2.block y hy) (fun y _ hy => by have := hB2.size; omega) HT.out
      have hT22 : TrIn w0 (fun y => y < w0.heap.size) t2 b2 := TrIn.keep (w := w2) hB0.size (fun y _ hy => hB0.block y hy) (fun y _ hy => by omega) hT2
      have f1 := readP'_facts HR.out
      have f2 := readP'_facts hr2
      have cx0 : w0.cell? ⟨w.heap.size, 0, none⟩ = some (.int .i64 x) := by rw [cell_of_row _ _ _ _ _ _ (HX2.out.below hB0 HX2.out.lt)]; rfl
      have cs0 : w0.cell? ⟨w2.heap.size, 0, none⟩ = some (.pointer (some ⟨b2, 0, none⟩)) := by rw [hw0, cell_of_row _ _ _ _ _ _ (RowAt.new w2 98 #[.pointer (some ⟨b2, 0, none⟩)])]; rfl
      have c2 : w2.cell? ⟨w.heap.size, 0, none⟩ = some (.int .i64 x) := by rw [cell_of_row _ _ _ _ _ _ HX2.out]; rfl
      have hwl : w.heap.size < w2.heap.size := HX2.out.lt
      have HBB0 : Hid (Below w.heap.size w w0) := HB2.out.trans (hB0.mono HB2.out.size)
      by_cases hk : 0 ≤ x ∧ x ≤ 999
      · have HN := hideT' (PtT_ok HR.out hr2 hk)
        obtain ⟨hk1, hk2⟩ := hk
        have hsz : (t.put x t2).sz ≤ 1000000 := Nat.le_trans (Lm.put_sz x t2 t) (Nat.le_trans (Nat.mul_le_mul f1.2.1 f2.2.1) (by omega))
        have HC3 := hideT' (replaced_any w0 w0.heap.size (Nat.le_refl _) 88 #[.pointer (some ⟨w.heap.size, 0, none⟩), .pointer (some ⟨w2.heap.size, 0, none⟩)] (putV x t2) call_put1 (putLeaf w0 w.heap.size w2.heap.size b2 x t2 (by omega) (by omega) cx0 cs0 hT22) t.sz t (Nat.le_refl _) b 0 w0 (Below.refl _ _) hT1 (by rw [putV_map]; exact hsz) (by omega) (Lm.ok_bd f1.2.2.2.1))
        rw [putV_map] at HC3
        have HSZ := hideT' hsz
        clear hr2 hT2 hB2 hT1 hT22 f1 f2 hsz cx0 cs0 hB0 hs0
        go_wp2_with fail
        rw [← hw0]
        refine HC3.out.mono ?_
        rintro e w3 ⟨⟨b3, rfl, hT3⟩, hB3⟩
        have HB3 : Hid (Below w.heap.size w w3) := HBB0.out.trans (hB3.mono HBB0.out.size)
        have HC4 := hideT' (tellTree_any _ b3 _ w3 hT3 HSZ.out)
        clear hT3 hB3 hw0
        go_wp2_with fail
        refine HC4.out.mono ?_
        rintro e w4 ⟨hT4, hB4⟩
        obtain ⟨u4, rfl, hO4⟩ := hT4
        have HF : Hid (TOut w (PtT l x s) (.returned (.tuple #[u4, .bool (t.put x t2).good])) w4 ∧ Below w.heap.size w w4) := ⟨ToldT.out (t := t.put x t2) ⟨u4, rfl, hO4⟩ HB3.out.size HN.out, HB3.out.trans (hB4.mono HB3.out.size)⟩
        obtain ⟨q, hq⟩ : ∃ q, q = (t.put x t2).good := ⟨_, rfl⟩
        rw [← hq] at HF ⊢
        clear hq hO4 hB4
        go_wp2
        go_ret2
        exact HF.out
      · have HN := hideT' (PtT_k (l := l) (s := s) hk)
        clear hr2 hT2 hB2 hT1 hT22 f1 f2 cx0 cs0 hB0 hs0
        by_cases h0 : x < 0
        · go_wp2
          go_ret2
          rw [← hw0]
          exact ⟨TOut.bad HN.out, HBB0.out⟩
        · have h9 : 999 < x := by omega
          go_wp2
          go_ret2
          rw [← hw0]
          exact ⟨TOut.bad HN.out, HBB0.out⟩
set_option maxHeartbeats 4000000 in
theorem specPutComb_any (l : List Nd) (k : Int) (s : List Nd) (v vs : Value) (w : World) (hv : NdIn w v l) (hvs : NdIn w vs s) (hl : l.length ≤ 1048576) (hls : s.length ≤ 1048576) :
    Calls Try.prog 44 #[v, .int .i64 k, vs] w fun e w' => TOut w (PtT l k s) e w' ∧ Below w.heap.size w w' := by
  have HV := hideT' hv
  have HVS := hideT' hvs
  have HC := hideT' (specGoodComb_any l v w hv hl)
  clear hv hvs
  cases hr : readP' l with
  | none =>
    have HN := hideT' (PtT_l (k := k) (s := s) hr)
    rw [goodS_none hr] at HC
    clear hr
    go_enter Try.func44, Try.ntmps44
    go_wp2_with fail
    refine HC.out.mono ?_
    rintro e w1 ⟨rfl, hB1⟩
    go_wp2
    go_ret2
    exact ⟨TOut.bad HN.out, hB1⟩
  | some t =>
    rw [goodS_some hr] at HC
    have HR := hideT' hr
    clear hr
    go_enter Try.func44, Try.ntmps44
    go_wp2_with fail
    refine HC.out.mono ?_
    rintro e w1 ⟨rfl, hB1⟩
    have HC2 := hideT' (specGoodComb_any s vs w1 (HVS.out.below hB1) hls)
    have HB1 := hideT' hB1
    clear hB1
    cases hr2 : readP' s with
    | none =>
      have HN := hideT' (PtT_s (l := l) (k := k) hr2)
      rw [goodS_none hr2] at HC2
      clear hr2
      go_wp2_with fail
      refine HC2.out.mono ?_
      rintro e w2 ⟨rfl, hB2⟩
      have HB2 : Hid (Below w.heap.size w w2) := HB1.out.trans (hB2.mono HB1.out.size)
      clear hB2
      go_wp2
      go_ret2
      exact ⟨TOut.bad HN.out, HB2.out⟩
    | some t2 =>
      rw [goodS_some hr2] at HC2
      have HR2 := hideT' hr2
      clear hr2
      go_wp2_with fail
      refine HC2.out.mono ?_
      rintro e w2 ⟨rfl, hB2⟩
      have HB2 : Hid (Below w.heap.size w w2) := HB1.out.trans (hB2.mono HB1.out.size)
      clear hB2
      go_wp2_with fail
      refine (l1In_any k 0 999 _).mono ?_
      rintro e w3 ⟨rfl, hw3⟩
      rw [hw3]
      clear hw3
      by_cases hk : 0 ≤ k ∧ k ≤ 999
      · have HN := hideT' (PtT_ok HR.out HR2.out hk)
        have HK := hideT' hk
        rw [decide_eq_true hk.1, decide_eq_true hk.2]
        clear hk
        have HC3 := hideT' (lcTree_whole l t v w2 (HV.out.below HB2.out) HR.out)
        go_wp2_with fail
        refine HC3.out.mono ?_
        rintro e w4 ⟨⟨z4, rfl, hz4⟩, hB4⟩
        have HB4 : Hid (Below w.heap.size w w4) := HB2.out.trans (hB4.mono HB2.out.size)
        have HC4 := hideT' (lcTree_whole s t2 vs w4 (HVS.out.below HB4.out) HR2.out)
        have HZ4 := hideT' hz4
        clear hB4 hz4
        go_wp2_with fail
        refine HC4.out.mono ?_
        rintro e w5 ⟨⟨z5, rfl, hz5⟩, hB5⟩
        have HB5 : Hid (Below w.heap.size w w5) := HB4.out.trans (hB5.mono HB4.out.size)
        have f1 := readP'_facts HR.out
        have f2 := readP'_facts HR2.out
        have HC5 := hideT' (ldPut_all k t2 t.sz t (Nat.le_refl _) z4 z5 (fun _ => True) w5 (LcIn.keep (w := w4) hB5.size (fun x _ hx => hB5.block x hx) (fun _ _ _ => trivial) HZ4.out) (LcIn.mono (fun _ _ _ => trivial) hz5))
        clear hB5 hz5 f1 f2
        go_wp2_with fail
        refine HC5.out.mono ?_
        rintro e w6 ⟨⟨z6, rfl, hz6⟩, hB6⟩
        have HB6 : Hid (Below w.heap.size w w6) := HB5.out.trans (hB6.mono HB5.out.size)
        have HC6 := hideT' (lcTold_any (t.put k t2) z6 _ w6 hz6)
        clear hB6 hz6
        go_wp2_with fail
        refine HC6.out.mono ?_
        rintro e w7 ⟨hT4, hB4⟩
        obtain ⟨u4, rfl, hO4⟩ := hT4
        have HF : Hid (TOut w (PtT l k s) (.returned (.tuple #[u4, .bool (t.put k t2).good])) w7 ∧ Below w.heap.size w w7) := ⟨ToldT.out (t := t.put k t2) ⟨u4, rfl, hO4⟩ HB6.out.size HN.out, HB6.out.trans (hB4.mono HB6.out.size)⟩
        obtain ⟨q, hq⟩ : ∃ q, q = (t.put k t2).good := ⟨_, rfl⟩
        rw [← hq] at HF ⊢
        clear hq hO4 hB4
        go_wp2
        go_ret2
        exact HF.out
      · have HN := hideT' (PtT_k (l := l) (s := s) hk)
        have hbb : (decide (0 ≤ k) && decide (k ≤ 999)) = false := by simpa using hk
        rw [hbb]
        clear hbb hk
        go_wp2
        go_ret2
        exact ⟨TOut.bad HN.out, HB2.out⟩
end Go.Proofs.Ytbkdlkpiaekblaa.CB

/-
  What spec.GoodTerm answers.
-/
namespace Go.Proofs.Ytbkdlkpiaekblaa
open Go.RowKit BL
set_option linter.unusedVariables false

theorem goodS_bad {l : List Nd} {k : Nat} (hk : k < l.length) (h : nodeOk l k = false) : goodS l = false := by
  unfold goodS
  rw [Bool.and_eq_false_iff]
  refine .inr ?_
  rw [List.all_eq_false]
  exact ⟨k, List.mem_range.2 hk, by simp [h]⟩
theorem goodS_short {l : List Nd} (h : (decide (1 ≤ l.length) && decide (l.length ≤ 150)) = false) : goodS l = false := by
  unfold goodS; rw [h, Bool.false_and]
theorem goodS_all {l : List Nd} (h : (decide (1 ≤ l.length) && decide (l.length ≤ 150)) = true) (ha : ∀ k, k < l.length → nodeOk l k = true) : goodS l = true := by
  unfold goodS; rw [h, Bool.true_and, List.all_eq_true]
  intro k hk
  exact ha k (List.mem_range.1 hk)
theorem nodeOk_up {l : List Nd} {k : Nat} (h : nodeOk l k = true) : -1 ≤ upN l k ∧ upN l k ≤ (k : Int) - 1 := by
  unfold nodeOk at h
  simp only [Bool.and_eq_true, decide_eq_true_eq] at h
  exact ⟨h.1.2.1, h.1.2.2⟩
def endB (R : Bool) (dd pn : Nat) (kd nm : Int) : Bool := R && (decide (dd ≤ 40) && (decide (pn = wantN kd) && ((decide (0 ≤ nm) && decide (nm ≤ 99)) && (decide (kd = 1) || decide (nm = 0)))))
theorem endB_R {dd pn : Nat} {kd nm : Int} : endB false dd pn kd nm = false := rfl
theorem endB_dd {R : Bool} {dd pn : Nat} {kd nm : Int} (h : ¬ dd ≤ 40) : endB R dd pn kd nm = false := by unfold endB; rw [decide_eq_false h]; simp
theorem endB_pn {R : Bool} {dd pn : Nat} {kd nm : Int} (h : ¬ pn = wantN kd) : endB R dd pn kd nm = false := by unfold endB; rw [decide_eq_false h]; simp
theorem endB_nm {R : Bool} {dd pn : Nat} {kd nm : Int} (h : ¬ (0 ≤ nm ∧ nm ≤ 99)) : endB R dd pn kd nm = false := by
  have : (decide (0 ≤ nm) && decide (nm ≤ 99)) = false := by simpa using h
  unfold endB; rw [this]; simp
theorem endB_n0 {R : Bool} {dd pn : Nat} {kd nm : Int} (h : ¬ kd = 1) (h0 : ¬ nm = 0) : endB R dd pn kd nm = false := by unfold endB; rw [decide_eq_false h, decide_eq_false h0]; simp
theorem endB_ok {dd pn : Nat} {kd nm : Int} (h1 : dd ≤ 40) (h2 : pn = wantN kd) (h3 : 0 ≤ nm) (h4 : nm ≤ 99) (h5 : kd = 1 ∨ nm = 0) : endB true dd pn kd nm = true := by
  unfold endB; rw [decide_eq_true h1, decide_eq_true h2, decide_eq_true h3, decide_eq_true h4]
  rcases h5 with h | h <;> simp [h]
theorem wantN_le (k : Int) : wantN k ≤ 2 := by unfold wantN; split; omega; split <;> omega
/-- What the last line of the model asks of a node. -/
def nodeEnd (l : List Nd) (k : Nat) (ar : Bool) (dp : Nat) (q : Int) : Bool :=
  ar && (decide (dp ≤ 40) && (decide ((partsTo l k l.length).length = wantN q) && ((decide (0 ≤ (ndAt l k).n) && decide ((ndAt l k).n ≤ 99)) && (decide (q = 1) || decide ((ndAt l k).n = 0)))))
theorem nodeOk_eq (l : List Nd) (k : Nat) : nodeOk l k = ((decide (k = 0) == decide (upN l k = -1)) && (decide (-1 ≤ upN l k) && decide (upN l k ≤ (k : Int) - 1)) && ((decide ((ndAt l k).k = 1) || (decide ((ndAt l k).k = 2) || decide ((ndAt l k).k = 3))) && nodeEnd l k (decide (k = 0) || ancF l (upN l k) k ((k : Int) - 1)) (dpF l (k + 1) k) (ndAt l k).k)) := rfl
theorem dpF_le (l : List Nd) : ∀ (f : Nat) (a : Int), dpF l f a ≤ f
  | 0, _ => Nat.le_refl _
  | f + 1, a => by rw [dpF]; split; omega; have := dpF_le l f (upN l a.toNat); omega

set_option maxHeartbeats 8000000 in
set_option maxRecDepth 100000 in
theorem specGoodTerm_any (l : List Nd) (v : Value) (w : World) (hv : NdIn w v l) (hl : l.length ≤ 1048576) :
    Calls Try.prog 52 #[v] w fun e w' => e = .returned (.bool (goodS l)) ∧ Below w.heap.size w w' := by
  have HV := hideT' hv
  obtain ⟨o, cap, rfl⟩ := hv.len
  clear hv
  obtain ⟨r, hr⟩ : ∃ r, r = goodS l := ⟨_, rfl⟩
  rw [← hr]
  have HR := hideT' hr
  obtain ⟨n, hn⟩ : ∃ n, n = l.length := ⟨_, rfl⟩
  have HNN := hideT' hn
  rw [← hn] at hl ⊢
  clear hr
  by_cases hlen : 1 ≤ n ∧ n ≤ 150
  · have hz := zero_term.1
    have HL : Hid ((decide (1 ≤ l.length) && decide (l.length ≤ 150)) = true) := by unfold Hid; rw [← hn]; simp [hlen.1, hlen.2]
    clear hn
    obtain ⟨h1, h150⟩ := hlen
    have hb1 : decide ((1 : Int) ≤ (n : Int)) = true := decide_eq_true (by omega)
    have hb2 : decide ((n : Int) ≤ (150 : Int)) = true := decide_eq_true (by omega)
    go_enter Try.func52, Try.ntmps52
    go_wp2_with fail
    refine (l1In_any (n : Int) 1 150 _).mono ?_
    rintro e w1 ⟨rfl, rfl⟩
    rw [hb1, hb2]
    clear hb1 hb2
    go_wp2_with fail
    go_loopg [16] n (fun g i wr => ∃ k : Nat, g = n - k ∧ k ≤ n ∧ i = .int .i64 (k : Int) ∧ (∀ j, j < k → nodeOk l j = true) ∧ Below w1.heap.size w1 wr)
    case atStart => exact ⟨0, rfl, by omega, by go_num, fun j hj => absurd hj (by omega), Below.refl _ _⟩
    case round =>
      obtain ⟨k, hg, hk, rfl, hok, hW⟩ := hrel
      have HOK := hideT' hok
      clear hok
      by_cases hlt : (k : Int) < (n : Int)
      · obtain ⟨nd, hnd⟩ : ∃ nd, nd = ndAt l k := ⟨_, rfl⟩
        obtain ⟨b, rfl, hb, c0, c1, c2⟩ := (HV.out.below hW).cells (by have := HNN.out; omega) hnd
        have HND := hideT' hnd
        have HUP : Hid (upN l k = nd.u) := by unfold Hid upN; rw [← hnd]
        have hb' : b < wr.heap.size := hb
        clear hb hnd
        obtain ⟨kd, nm, u⟩ := nd
        simp only at c0 c1 c2 HUP
        have HW := hideT' hW
        have hsz := hW.size
        clear hW
        obtain ⟨q0, hq0⟩ : ∃ q0, ((k : Int) == 0) = q0 := ⟨_, rfl⟩
        obtain ⟨q1, hq1⟩ : ∃ q1, (u == (-1 : Int)) = q1 := ⟨_, rfl⟩
        have HQ0 : Hid (q0 = decide (k = 0)) := by unfold Hid; rw [← hq0, Bool.eq_iff_iff, beq_iff_eq, decide_eq_true_eq]; omega
        have HQ1 : Hid (q1 = decide (u = -1)) := by unfold Hid; rw [← hq1, Bool.eq_iff_iff, beq_iff_eq, decide_eq_true_eq]
        have HBAD : Hid (nodeOk l k = false → r = false) := by
          unfold Hid; intro h; rw [HR.out]; exact goodS_bad (by have := HNN.out; omega) h
        by_cases hqq : q0 = q1
        · subst hqq
          by_cases hin : -1 ≤ u ∧ u ≤ (k : Int) - 1
          · obtain ⟨hi1, hi2⟩ := hin
            have hb1 : decide (-1 ≤ u) = true := decide_eq_true hi1
            have hb2 : decide (u ≤ (k : Int) - 1) = true := decide_eq_true hi2
            have HUPS : Hid (∀ j, j ≤ k → -1 ≤ upN l j ∧ upN l j ≤ (j : Int) - 1) := by
              unfold Hid; intro j hj
              by_cases e : j = k
              · subst e; rw [HUP.out]; exact ⟨hi1, hi2⟩
              · exact nodeOk_up (HOK.out j (by omega))
            obtain ⟨tb, htb⟩ : ∃ tb, tb = wr.heap.size := ⟨_, rfl⟩
            have HEND : Hid (nodeOk l k = ((decide (kd = 1) || (decide (kd = 2) || decide (kd = 3))) && nodeEnd l k (q0 || ancF l u k ((k : Int) - 1)) (dpF l (k + 1) k) kd)) := by
              unfold Hid
              rw [nodeOk_eq, HUP.out, ← HND.out, ← HQ0.out, ← HQ1.out, hb1, hb2]
              simp
            go_wp2_with fail
            refine (l1In_any u (-1) ((k : Int) - 1) _).mono ?_
            rintro e w2 ⟨rfl, hw2⟩
            rw [hb1, hb2]
            have HW2 : Hid (Below w1.heap.size w1 w2) := by unfold Hid; rw [hw2]; exact HW.out.alloc hsz _
            have hrow : RowAt w2 tb 69 #[.int .i64 kd, .int .i64 nm, .int .i64 u] := by rw [hw2, htb]; exact RowAt.new _ _ _
            have d0 : w2.cell? ⟨tb, 0, none⟩ = some (.int .i64 kd) := by rw [cell_of_row _ _ _ _ _ _ hrow]; rfl
            have d1 : w2.cell? ⟨tb, 1, none⟩ = some (.int .i64 nm) := by rw [cell_of_row _ _ _ _ _ _ hrow]; rfl
            have d2 : w2.cell? ⟨tb, 2, none⟩ = some (.int .i64 u) := by rw [cell_of_row _ _ _ _ _ _ hrow]; rfl
            rw [← htb]
            have HTB : Hid (tb < w2.heap.size) := hrow.lt
            clear hw2 hrow hb1 hb2 hb' htb
            obtain ⟨R, hRR⟩ : ∃ R, R = (q0 || ancF l u k ((k : Int) - 1)) := ⟨_, rfl⟩
            have HRR := hideT' hRR
            clear hRR c0 c1 c2
            go_upto_block 2 with fail
            go_cut [5, 6, 16] from 16 to 102 (fun ar at_ ix wx => ar = .bool R ∧ (∃ a : Int, at_ = .int .i64 a) ∧ ix = .int .i64 (k : Int) ∧ w2 = wx)
            case first =>
              go_wp2_with fail
              go_loopg [5, 6] k (fun g ar at_ wx => ∃ (a : Int) (q : Bool) (f : Nat), g = (a + 1).toNat ∧ ar = .bool q ∧ at_ = .int .i64 a ∧ -1 ≤ a ∧ a ≤ (k : Int) - 1 ∧ a < f ∧ Hid ((q || ancF l u f a) = R) ∧ w2 = wx)
              case atStart => exact ⟨(k : Int) - 1, q0, k, by omega, rfl, by go_num, by omega, by omega, by omega, HRR.out.symm, rfl⟩
              case round =>
                obtain ⟨a, q, f, hga, rfl, rfl, ha1, ha2, haf, HA, rfl⟩ := hrel
                by_cases hgo : 0 ≤ a ∧ q = false
                · obtain ⟨ha0, rfl⟩ := hgo
                  obtain ⟨m, rfl⟩ : ∃ m : Nat, a = (m : Int) := ⟨a.toNat, by omega⟩
                  obtain ⟨nd, hnd⟩ : ∃ nd, nd = ndAt l m := ⟨_, rfl⟩
                  obtain ⟨b', e', hb', c0, c1, c2⟩ := (HV.out.below HW2.out).cells (by have := HNN.out; omega) hnd
                  cases e'
                  have hups := HUPS.out m (by omega)
                  have HUM : Hid (upN l m = nd.u) := by unfold Hid upN; rw [← hnd]
                  rw [HUM.out] at hups
                  clear hnd hb' c0 c1
                  obtain ⟨kd', nm', u'⟩ := nd
                  simp only at c2 HUM hups
                  obtain ⟨q', hq'⟩ : ∃ q', ((m : Int) == u) = q' := ⟨_, rfl⟩
                  have HQ' : Hid ((q' || ancF l u (f - 1) u') = R) := by
                    unfold Hid
                    rw [← HA.out]
                    obtain ⟨f', rfl⟩ : ∃ f', f = f' + 1 := ⟨f - 1, by omega⟩
                    rw [ancF, if_neg (by omega), Int.toNat_natCast, HUM.out, ← hq', Nat.add_sub_cancel]
                    by_cases hmu : (m : Int) = u
                    · rw [if_pos hmu]; simp [hmu]
                    · rw [if_neg hmu]; simp [hmu]
                  go_wp2
                  go_roundg ((u' + 1).toNat)
                  case measure => omega
                  case rel => exact ⟨u', q', f - 1, rfl, rfl, rfl, hups.1, by omega, by omega, HQ', rfl⟩
                · have HQR : Hid (q = R) := by
                    unfold Hid
                    rw [← HA.out]
                    by_cases hq : q = true
                    · rw [hq]; rfl
                    · have hq' : q = false := by simpa using hq
                      have : a < 0 := by
                        rcases Int.lt_or_le a 0 with h | h
                        · exact h
                        · exact absurd ⟨h, hq'⟩ hgo
                      rw [hq']
                      cases f with
                      | zero => rfl
                      | succ f => rw [ancF, if_pos this]; rfl
                  have hex : a < 0 ∨ (0 ≤ a ∧ q = true) := by
                    rcases Int.lt_or_le a 0 with h | h
                    · exact .inl h
                    · refine .inr ⟨h, ?_⟩
                      cases q with
                      | true => rfl
                      | false => exact absurd ⟨h, rfl⟩ hgo
                  clear hgo HA
                  have hex3 : (a < 0 ∧ q = false) ∨ (a < 0 ∧ q = true) ∨ (0 ≤ a ∧ q = true) := by
                    rcases hex with h | h
                    · cases q with
                      | false => exact .inl ⟨h, rfl⟩
                      | true => exact .inr (.inl ⟨h, rfl⟩)
                    · exact .inr (.inr h)
                  clear hex
                  rcases hex3 with ⟨ha, rfl⟩ | ⟨ha, rfl⟩ | ⟨ha, rfl⟩
                  · go_wp2
                    go_meet
                    case rel => exact ⟨by rw [HQR.out], ⟨_, rfl⟩, rfl, rfl⟩
                  · go_wp2
                    go_meet
                    case rel => exact ⟨by rw [HQR.out], ⟨_, rfl⟩, rfl, rfl⟩
                  · go_wp2
                    go_meet
                    case rel => exact ⟨by rw [HQR.out], ⟨_, rfl⟩, rfl, rfl⟩
            case rest =>
              obtain ⟨rfl, ⟨aa, rfl⟩, rfl, rfl⟩ := hcut
              obtain ⟨DP, hDP⟩ : ∃ DP, DP = dpF l (k + 1) k := ⟨_, rfl⟩
              have hDPl : DP ≤ k + 1 := by rw [hDP]; exact dpF_le _ _ _
              have HDP := hideT' hDP
              clear hDP
              obtain ⟨pn, hpn⟩ : ∃ pn, pn = (partsTo l k l.length).length := ⟨_, rfl⟩
              have hpnl : pn ≤ 150 := by rw [hpn]; have := partsTo_le l k l.length; have := HNN.out; omega
              have HPC : Hid (∀ w3, NdIn w3 (.slice (some ⟨b, 0, none⟩) n cap) l → Calls Try.prog 97 #[.slice (some ⟨b, 0, none⟩) n cap, .int .i64 (k : Int)] w3 fun e w' => (∃ o c, e = .returned (.slice o pn c)) ∧ Below w3.heap.size w3 w') := by
                unfold Hid; intro w3 h3
                refine (lcParts_any l k _ w3 h3 (by have := HNN.out; omega) (by have := HNN.out; omega)).mono ?_
                rintro e w' ⟨⟨uv, rfl, hown⟩, hB⟩
                obtain ⟨o', c', rfl⟩ := own_formT hown
                exact ⟨⟨o', c', by rw [natsI_len, ← hpn]⟩, hB⟩
              have HEN2 : Hid (nodeOk l k = ((decide (kd = 1) || (decide (kd = 2) || decide (kd = 3))) && endB R DP pn kd nm)) := by
                unfold Hid; rw [HEND.out, ← HRR.out, ← HDP.out]; unfold nodeEnd endB; rw [← HND.out, ← hpn]
              clear hpn
              have HVW : Hid (NdIn w2 (.slice (some ⟨b, 0, none⟩) n cap) l) := by unfold Hid; have := HV.out.below HW2.out; rw [HNN.out]; exact this
              go_wp2_with fail
              go_loopg [7, 8] (k + 1) (fun g dv at_ wx => ∃ (a : Int) (dd f : Nat), g = (a + 1).toNat ∧ dv = .int .i64 (dd : Int) ∧ at_ = .int .i64 a ∧ -1 ≤ a ∧ a ≤ (k : Int) ∧ a < f ∧ Hid (dd + dpF l f a = DP) ∧ dd ≤ DP ∧ w2 = wx)
              case atStart => exact ⟨(k : Int), 0, k + 1, by omega, rfl, by go_num, by omega, by omega, by omega, by unfold Hid; rw [HDP.out]; omega, by omega, rfl⟩
              case round =>
                obtain ⟨a, dd, f, hga, rfl, rfl, ha1, ha2, haf, HA, hdd, rfl⟩ := hrel
                by_cases ha0 : 0 ≤ a
                · obtain ⟨m, rfl⟩ : ∃ m : Nat, a = (m : Int) := ⟨a.toNat, by omega⟩
                  obtain ⟨nd, hnd⟩ : ∃ nd, nd = ndAt l m := ⟨_, rfl⟩
                  obtain ⟨b', e', hb', c0, c1, c2⟩ := (HV.out.below HW2.out).cells (by have := HNN.out; omega) hnd
                  cases e'
                  have hups := HUPS.out m (by omega)
                  have HUM : Hid (upN l m = nd.u) := by unfold Hid upN; rw [← hnd]
                  rw [HUM.out] at hups
                  clear hnd hb' c0 c1
                  obtain ⟨kd', nm', u'⟩ := nd
                  simp only at c2 HUM hups
                  have hst : dd + 1 + dpF l (f - 1) u' = DP := by
                    rw [← HA.out]
                    obtain ⟨f', rfl⟩ : ∃ f', f = f' + 1 := ⟨f - 1, by omega⟩
                    rw [dpF, if_neg (by omega), Int.toNat_natCast, HUM.out, Nat.add_sub_cancel]
                    omega
                  have HST := hideT' hst
                  have hdd1 : dd + 1 ≤ DP := by omega
                  clear hst
                  go_wp2
                  go_roundg ((u' + 1).toNat)
                  case measure => omega
                  case rel => exact ⟨u', dd + 1, f - 1, rfl, by go_num, rfl, hups.1, by omega, by omega, HST, hdd1, rfl⟩
                · have hdp : dd = DP := by
                    rw [← HA.out]
                    have : dpF l f a = 0 := by
                      cases f with
                      | zero => rfl
                      | succ f => rw [dpF, if_pos (by omega)]
                    omega
                  subst hdp
                  clear HA
                  by_cases hkd : kd = 1 ∨ kd = 2 ∨ kd = 3
                  · have HE4 : Hid (nodeOk l k = endB R dd pn kd nm) := by
                      unfold Hid; rw [HEN2.out]
                      rcases hkd with rfl | rfl | rfl <;> simp
                    cases R with
                    | false =>
                      have HF : Hid (r = false) := HBAD.out (by rw [HE4.out]; exact endB_R)
                      rcases hkd with rfl | rfl | rfl
                      all_goals (
                        go_wp2
                        go_ret
                        exact ⟨by rw [HF.out]; rfl, HW2.out⟩)
                    | true =>
                      by_cases hd40 : dd ≤ 40
                      · have hpc : pn = wantN kd ∨ ¬ pn = wantN kd := by omega
                        rcases hkd with rfl | rfl | rfl
                        all_goals (
                          go_wp2_with fail
                          refine (HPC.out _ HVW.out).mono ?_
                          rintro e w5 ⟨⟨o5, c5, rfl⟩, hB5⟩
                          have HB6 : Hid (Below w1.heap.size w1 w5) := HW2.out.trans (hB5.mono HW2.out.size)
                          have f0 := (hB5.cell (p := ⟨tb, 0, none⟩) HTB.out).trans d0
                          have f1 := (hB5.cell (p := ⟨tb, 1, none⟩) HTB.out).trans d1
                          clear hB5 d0 d1 d2
                          rcases hpc with hpc | hpc
                          · have HPW := hideT' hpc
                            simp only [wantN, Int.reduceEq, if_true, if_false] at hpc
                            subst hpc
                            by_cases hnm : 0 ≤ nm ∧ nm ≤ 99
                            · obtain ⟨hn1, hn2⟩ := hnm
                              have hb1 : decide (0 ≤ nm) = true := decide_eq_true hn1
                              have hb2 : decide (nm ≤ 99) = true := decide_eq_true hn2
                              go_wp2_with fail
                              refine (l1In_any nm 0 99 _).mono ?_
                              rintro e w6 ⟨rfl, hw6⟩
                              subst hw6
                              rw [hb1, hb2]
                              clear hb1 hb2
                              by_cases hn0 : nm = 0
                              · have HK : Hid (nodeOk l k = true) := by unfold Hid; rw [HE4.out]; exact endB_ok hd40 HPW.out hn1 hn2 (.inr hn0)
                                go_wp2
                                go_roundg (n - (k + 1))
                                case measure => omega
                                case rel => exact ⟨k + 1, rfl, by omega, by go_num, fun j hj => if e : j = k then by rw [e]; exact HK.out else HOK.out j (by omega), HB6.out⟩
                              · first
                                | (have HF : Hid (r = false) := HBAD.out (by rw [HE4.out]; exact endB_n0 (by decide) hn0)
                                   have hnb : (nm != 0) = true := by simpa using hn0
                                   go_wp2
                                   go_ret
                                   exact ⟨by rw [HF.out]; rfl, HB6.out⟩)
                                | (have HK : Hid (nodeOk l k = true) := by unfold Hid; rw [HE4.out]; exact endB_ok hd40 HPW.out hn1 hn2 (.inl rfl)
                                   go_wp2
                                   go_roundg (n - (k + 1))
                                   case measure => omega
                                   case rel => exact ⟨k + 1, rfl, by omega, by go_num, fun j hj => if e : j = k then by rw [e]; exact HK.out else HOK.out j (by omega), HB6.out⟩)
                            · have HF : Hid (r = false) := HBAD.out (by rw [HE4.out]; exact endB_nm hnm)
                              have hbb : (decide (0 ≤ nm) && decide (nm ≤ 99)) = false := by simpa using hnm
                              go_wp2_with fail
                              refine (l1In_any nm 0 99 _).mono ?_
                              rintro e w6 ⟨rfl, hw6⟩
                              subst hw6
                              rw [hbb]
                              clear hbb
                              go_wp2
                              go_ret
                              exact ⟨by rw [HF.out]; rfl, HB6.out⟩
                          · have HF : Hid (r = false) := HBAD.out (by rw [HE4.out]; exact endB_pn hpc)
                            simp only [wantN, Int.reduceEq, if_true, if_false] at hpc
                            have hpi : ∀ z : Nat, ¬ pn = z → ¬ (pn : Int) = (z : Int) := fun z h => by omega
                            have hpi2 := hpi _ hpc
                            clear hpi
                            simp only [Int.cast_ofNat_Int] at hpi2
                            go_wp2
                            go_ret
                            exact ⟨by rw [HF.out]; rfl, HB6.out⟩)
                      · have HF : Hid (r = false) := HBAD.out (by rw [HE4.out]; exact endB_dd hd40)
                        rcases hkd with rfl | rfl | rfl
                        all_goals (
                          go_wp2
                          go_ret
                          exact ⟨by rw [HF.out]; rfl, HW2.out⟩)
                  · have HF : Hid (r = false) := HBAD.out (by rw [HEN2.out]; have h1 : decide (kd = 1) = false := decide_eq_false (fun h => hkd (.inl h)); have h2 : decide (kd = 2) = false := decide_eq_false (fun h => hkd (.inr (.inl h))); have h3 : decide (kd = 3) = false := decide_eq_false (fun h => hkd (.inr (.inr h))); rw [h1, h2, h3]; rfl)
                    have hk1 : ¬ kd = 1 := fun h => hkd (.inl h)
                    have hk2 : ¬ kd = 2 := fun h => hkd (.inr (.inl h))
                    have hk3 : ¬ kd = 3 := fun h => hkd (.inr (.inr h))
                    clear hkd
                    go_wp2
                    go_ret
                    exact ⟨by rw [HF.out]; rfl, HW2.out⟩
          · have HF : Hid (r = false) := HBAD.out (by
              rw [nodeOk_eq, HUP.out]
              have : (decide (-1 ≤ u) && decide (u ≤ (k : Int) - 1)) = false := by simpa using hin
              rw [this]; simp)
            have hbb : (decide (-1 ≤ u) && decide (u ≤ (k : Int) - 1)) = false := by simpa using hin
            go_wp2_with fail
            refine (l1In_any u (-1) ((k : Int) - 1) _).mono ?_
            rintro e w2 ⟨rfl, hw2⟩
            rw [hbb]
            have HW2 : Hid (Below w1.heap.size w1 w2) := by unfold Hid; rw [hw2]; exact HW.out.alloc hsz _
            clear hbb hw2
            go_wp2
            go_ret
            exact ⟨by rw [HF.out]; rfl, HW2.out⟩
        · have HF : Hid (r = false) := HBAD.out (by
            rw [nodeOk_eq, HUP.out, ← HQ0.out, ← HQ1.out]
            have : (q0 == q1) = false := by simpa using hqq
            rw [this]; rfl)
          have HW2 : Hid (Below w1.heap.size w1 (wr.alloc (.cells #[.int .i64 kd, .int .i64 nm, .int .i64 u] 69))) := HW.out.alloc hsz _
          cases q0 <;> cases q1
          · exact absurd rfl hqq
          · go_wp2
            go_ret
            exact ⟨by rw [HF.out]; rfl, HW2.out⟩
          · go_wp2
            go_ret
            exact ⟨by rw [HF.out]; rfl, HW2.out⟩
          · exact absurd rfl hqq
      · have HT : Hid (r = true) := by
          unfold Hid; rw [HR.out]
          exact goodS_all HL.out (fun j hj => HOK.out j (by have := HNN.out; omega))
        go_wp2
        go_ret
        exact ⟨by rw [HT.out]; rfl, hW⟩
  · have HF : Hid (r = false) := by
      unfold Hid; rw [HR.out]
      refine goodS_short ?_
      rw [← hn]; simpa using hlen
    have hbb : (decide ((1 : Int) ≤ (n : Int)) && decide ((n : Int) ≤ (150 : Int))) = false := by
      rw [Bool.and_eq_false_iff, decide_eq_false_iff_not, decide_eq_false_iff_not]; omega
    clear hn
    go_enter Try.func52, Try.ntmps52
    go_wp2_with fail
    refine (l1In_any (n : Int) 1 150 _).mono ?_
    rintro e w1 ⟨rfl, rfl⟩
    rw [hbb]
    clear hbb
    go_wp2
    go_ret
    exact ⟨by rw [HF.out]; rfl, Below.refl _ _⟩
end Go.Proofs.Ytbkdlkpiaekblaa

/-
  What redexesIn of the program answers.
-/
namespace Go.Proofs.Ytbkdlkpiaekblaa
open Go.RowKit Go.Shelf BL
set_option linter.unusedVariables false
attribute [local go_sem] Oper.semAt_some

/-- How a round of redexesIn begins. -/
def redAct (w : World) (b sb : Nat) (x : Spot × Nat) : Act := { tmps := #[.pointer (some ⟨b, 0, none⟩), undef, .slice none 0 0, .pointer (some ⟨w.heap.size, 0, none⟩), .pointer (some ⟨sb, 0, none⟩), .pointer (some ⟨x.2, 0, none⟩), .pointer (some ⟨b, 0, none⟩), .func (.func 133) #[] #[.pointer (some ⟨w.heap.size + 1, 0, none⟩)], .agg #[.int .i64 (x.1.at_ : Int), .int .i64 x.1.up, .int .i64 (x.1.lam : Int)], .pointer (some ⟨x.2, 0, none⟩), undef, undef, undef, undef, undef, undef, undef, undef], defers := [] }
set_option maxRecDepth 100000 in
set_option maxHeartbeats 8000000 in
theorem redexesIn_any (t : Lm) (b : Nat) (P : Nat → Prop) (w : World) (hT : TrIn w P t b) (hs : t.sz ≤ 1000000) :
    Calls Try.prog 70 #[.pointer (some ⟨b, 0, none⟩)] w fun e w' => (∃ u, e = .returned u ∧ OwnR w' w.heap.size u 3 intL 1 (natsI t.reds)) ∧ Below w.heap.size w w' := by
  refine (callsIn_wide (n := 4)).1 ?_
  have HT := hideT' hT
  clear hT
  refine callsIn_of_wp_marks Try.func70 rfl trivial ?_ rfl
  simp only [Try.ntmps70, List.size_toArray, List.length_cons, List.length_nil, Nat.reduceAdd, Nat.reduceSub, Array.replicate_succ, Array.replicate_zero, List.push_toArray, List.append_toArray, List.nil_append, List.cons_append]
  gi_wp2
  refine ⟨trivial, ?_⟩
  gi_at_call 99
  refine (callsIn_wide.2 (walk_any b _)).mono ?_
  rintro e w3 ⟨rfl, hw3⟩
  have hs3 : w3.heap.size = w.heap.size + 2 := by rw [hw3]; simp
  have hB3 : Below w.heap.size w w3 := by rw [hw3]; exact ((Below.refl _ _).alloc (Nat.le_refl _) _).alloc (by simp) _
  have hI0 : RedI w [] (fun z => z = w.heap.size) w3 := by
    refine ⟨.slice none 0 0, fun z => ?_, ?_, World.ownsRow_nil _ _ _ _, hB3⟩
    · simp [Value.ownBlock]
    · rw [hw3]; exact RowAt.old (RowAt.new _ _ _) _
  have hcx : w3.cell? ⟨w.heap.size + 1, 0, none⟩ = some (.pointer (some ⟨b, 0, none⟩)) := by
    have hr : RowAt w3 (w.heap.size + 1) 72 #[.pointer (some ⟨b, 0, none⟩)] := by
      rw [hw3]
      have := RowAt.new (w.alloc (.cells #[.slice none 0 0] 24)) 72 #[.pointer (some ⟨b, 0, none⟩)]
      rwa [World.size_alloc] at this
    rw [cell_of_row _ _ _ _ _ _ hr]; rfl
  have HI0 := hideT' hI0
  have HB3 := hideT' hB3
  have HCX := hideT' hcx
  clear hw3 hI0 hB3 hcx
  simp only [World.size_alloc]
  gi_wp2
  refine range_own (gf := 133) (lb := #[.pointer (some ⟨w.heap.size + 1, 0, none⟩)]) (by rfl) (enters_of Try.func133 (by kernel_rfl) rfl) encS (fun x => rfl) _ _ _ (walk_seq (w.heap.size + 1) t b hs)
    (fun pre x V V' W hVV h => ⟨h.1, TrIn.mono (fun z hz _ hv => hz (hVV z hv)) h.2⟩)
    (RedI w) (fun s V A h => h.lt) (fun s V A B row h hg hr => h.step hg (fun r e => ⟨(hr r e).1, by have := (hr r e).2; omega⟩)) (fun z => z = w.heap.size) HI0.out ?need
    (fun pre x V c W => ∃ sb, c = redAct w b sb x ∧ pre.length < t.sz ∧ (x.1.at_ < t.sz) ∧ RedI w pre V W ∧ RowAt W sb 133 #[.int .i64 (x.1.at_ : Int), .int .i64 x.1.up, .int .i64 (x.1.lam : Int)] ∧ ¬ V sb ∧ TrIn W (fun z => ¬ V z) x.1.t x.2) ?ax ?assign ?body ?done
  case need =>
    intro B V hg hV
    refine ⟨TrIn.keep (w := w) (P := P) (by have := hg.size; omega) (fun x _ hx => ?_) (fun x _ hx hv => ?_) HT.out, ?_⟩
    · rw [hg.block x (by omega) (by simp)]; exact HB3.out.block x hx
    · rcases hV x hv with h | h <;> omega
    · rw [World.cell?_of_block (w := w3) (a := ⟨w.heap.size + 1, 0, none⟩) (hg.block _ (by simp; omega) (by simp))]; exact HCX.out
  case ax =>
    rintro s x V c A B row ⟨sb, h1, hl, ha, h2, h3, h4, h5⟩ hg hr
    exact ⟨sb, h1, hl, ha, h2.step hg (fun r e => ⟨(hr r e).1.1, by have := (hr r e).1.2; omega⟩), TrIn.turn.row_same h3 hg (fun r e => (hr r e).2), h4, TrIn.turn hg (fun r e => (hr r e).2) h5⟩
  case assign =>
    intro l pre x V W K hNx hI hK
    have HI := hideT' hI
    have HK := hideT' hK
    have HNX := hideT' hNx
    unfold encS
    clear hI hK hNx
    gi_wp2
    have hal : Below W.heap.size W (W.alloc (.cells #[.int .i64 (x.1.at_ : Int), .int .i64 x.1.up, .int .i64 (x.1.lam : Int)] 133)) := (Below.refl _ _).alloc (Nat.le_refl _) _
    obtain ⟨⟨post, hpo⟩, hTx⟩ := HNX.out
    have hlen := congrArg List.length hpo
    rw [Lm.walk_len, List.length_append, List.length_map, List.length_cons] at hlen
    refine HK.out _ _ V ⟨W.heap.size, rfl, by omega, ?_, HI.out.step (row := none) ⟨hal.os, hal.tape, hal.output, hal.size, fun k hk _ => hal.block k hk⟩ (fun r e => by cases e), RowAt.new _ _ _, fun h => by have := HI.out.lt _ h; omega, TrIn.below hal hTx⟩ (MoreB.refl _ _) (KeepsB.below hal)
    have := (Lm.walk_sub t 0 (-1) 0 x.1 (by rw [hpo]; simp)).2.2.2.1
    omega
  case body =>
    rintro l pre x V c W ⟨sb, rfl, hpl, hat, hI, hR, hVs, hTx⟩
    unfold redAct
    obtain ⟨v, hV, hRv, hO, hB⟩ := hI
    obtain ⟨ov, cap, hvv⟩ := own_formT hO
    subst hvv
    have hls := redsOf_len pre
    have hra := redsOf_app pre x
    have hca : W.cell? ⟨sb, 0, none⟩ = some (.int .i64 (x.1.at_ : Int)) := by rw [cell_of_row _ _ _ _ _ _ hR]; rfl
    have hcv : W.cell? ⟨w.heap.size, 0, none⟩ = some (.slice ov (redsOf pre).length cap) := by rw [cell_of_row _ _ _ _ _ _ hRv]; rfl
    have HC := hideT' (isRedex_any x.1.t x.2 _ W hTx)
    obtain ⟨q, hq⟩ : ∃ q, q = x.1.t.isRed := ⟨_, rfl⟩
    rw [← hq] at HC hra
    have HV := hideT' hV
    have HRV := hideT' hRv
    have HO := hideT' hO
    have HB := hideT' hB
    have hsb := hR.lt
    have hwz := hRv.lt
    clear hV hRv hO hB hR hTx hq
    cases q with
    | false =>
      have HRA : Hid (redsOf (pre ++ [x]) = redsOf pre) := by unfold Hid; rw [hra]; simp
      clear hra
      gi_wp2
      refine ⟨trivial, ?_⟩
      gi_at_call 112
      refine (CallsIn.inRound l (callsIn_wide.2 HC.out)).mono ?_
      rintro e w4 ⟨rfl, rfl⟩
      gi_wp2
      exact ⟨V, ⟨_, HV.out, HRV.out, by rw [HRA.out]; exact HO.out, HB.out⟩, MoreB.refl _ _, KeepsB.refl _ _⟩
    | true =>
      have HRA : Hid (redsOf (pre ++ [x]) = redsOf pre ++ [(x.1.at_ : Int)]) := by unfold Hid; rw [hra]; simp
      clear hra
      obtain ⟨i0, hi, hz0, hz1, hz2⟩ := info_parts info_int
      gi_wp2
      refine ⟨trivial, ?_⟩
      gi_at_call 112
      refine (CallsIn.inRound l (callsIn_wide.2 HC.out)).mono ?_
      rintro e w4 ⟨rfl, rfl⟩
      have hwl : w.heap.size + 1 ≤ w4.heap.size := hwz
      gi_wp2_with (gi_at_builtin; refine wpListIn_append_own_at _ rfl _ _ 24 rfl (w.heap.size + 1) 3 i0 (.int .i64 0) 1 8 Try.underlying24 hi hz0 hz1 hz2 rfl (by decide) (.slice ov (redsOf pre).length cap) _ _ rfl (HO.out.alloc _) ⟨w4.heap.size, 0, none⟩ 1 1 [.int .i64 (x.1.at_ : Int)] rfl rfl (cell_one_new _ _ _) (oneT_cell _) (by unfold maxLen; omega) (by omega) (by simp; omega) ?_; intro v5 w5 hown5 hg5 _ hat5; obtain ⟨g5, cap5, rfl⟩ := ownsRow_succ hown5; have hbx5 := boxR_append (B := w.heap.size) (t := 24) HRV.out (by decide) HO.out hown5 hg5; have HBX5 := hideT' hbx5; have f5 : w5.cell? ⟨w.heap.size, 0, none⟩ = some (.slice ov (redsOf pre).length cap) := hbx5.1.cell; have fz5 : w5.frozen? ⟨w.heap.size, 0, none⟩ = false := hbx5.1.frozen; have HG5 := hideT' hg5; have HAT5 := hideT' hat5; clear hbx5 hg5 hat5)
      obtain ⟨_, q1, q2, q3, q4, q5, q6, q7, q8⟩ := HBX5.out
      have hob : ∀ z, z < w4.heap.size → ¬ V z → (w5.setCell ⟨w.heap.size, 0, none⟩ (.slice (some ⟨g5, 0, none⟩) ((redsOf pre).length + 1) cap5)).heap[z]? = w4.heap[z]? := fun z hz hv => by
        have h1 : z ≠ w.heap.size := fun e => hv ((HV.out z).2 (.inl e))
        rw [heap_setCell_other w5 ⟨w.heap.size, 0, none⟩ z _ (fun e => h1 e), HG5.out.block z (by simp; omega) (fun e => hv ((HV.out z).2 (.inr e.symm))), Below.heap_alloc _ _ _ hz]
      refine ⟨fun z => z = w.heap.size ∨ (Value.slice (some ⟨g5, 0, none⟩) ((redsOf pre).length + 1) cap5).ownBlock = some z, ⟨_, fun z => Iff.rfl, q1, ?_, ?_⟩, ?_, ⟨q4, fun z hz hv => hob z hz hv⟩⟩
      · unfold OwnR
        rw [HRA.out, List.length_append, List.length_singleton, List.flatMap_append]; exact q2
      · refine HB.out.trans ⟨q6, q7, q8, q4, fun j hj => ?_⟩
        exact hob j (by omega) (fun h => by
          rcases (HV.out j).1 h with e | e
          · omega
          · have := (HO.out.lt j e).1; omega)
      · intro z hz
        rcases hz with rfl | hz
        · exact .inl ((HV.out _).2 (.inl rfl))
        · rcases HAT5.out with h | h
          · exact .inl ((HV.out z).2 (.inr (by rw [← h]; exact hz)))
          · rw [h] at hz
            injection hz with hz
            rw [World.size_alloc] at hz
            exact .inr (by omega)
  case done =>
    rintro D ys V W hD hS ⟨v, hV, hRv, hO, hB⟩ hVD hK
    obtain ⟨ov, cap, hvv⟩ := own_formT hO
    subst hvv
    have hcv : W.cell? ⟨w.heap.size, 0, none⟩ = some (.slice ov (redsOf ys).length cap) := by rw [cell_of_row _ _ _ _ _ _ hRv]; rfl
    have HOW : Hid (W.ownsRow w.heap.size 3 1 (.slice ov (redsOf ys).length cap) (natsI t.reds).length ((natsI t.reds).flatMap intL)) := by
      unfold Hid
      rw [← redsOf_all hS]
      exact ⟨hO.1, hO.2.imp id fun ⟨g, cap, cur, h1, h2, h3⟩ => ⟨g, cap, cur, h1, by omega, h3⟩⟩
    have HW := hideT' hB
    have HKD := hideT' hK
    clear hO hB hK hRv
    gi_wp2
    refine leave_marks (v := .slice ov (redsOf ys).length cap) HKD.out (by simp [results, Try.results70, go_sem]) ⟨⟨_, rfl, ?_⟩, below_put HW.out (by omega) HW.out.size⟩
    exact ⟨HOW.out.1, HOW.out.2.imp id fun ⟨g, cap, cur, h1, h2, h3, h4⟩ => ⟨g, cap, cur, h1, h2, row_put h3 HKD.out rfl, h4⟩⟩
end Go.Proofs.Ytbkdlkpiaekblaa

/-
  What lcRedexes and RedexesIn of the model answer; RedexesIn of the program.
-/
namespace Go.Proofs.Ytbkdlkpiaekblaa
open Go.RowKit BL
set_option linter.unusedVariables false

theorem Seg.spot {l : List Nd} : ∀ {t : Lm} {a : Nat} {up : Int}, Seg l t a up → ∀ m, ∀ x ∈ t.walk a up m, ndAt l x.at_ = x.nd ∧ x.at_ + x.t.sz ≤ a + t.sz
  | .var n, a, up, h, m, x, hx => by
    simp only [Lm.walk, List.mem_singleton] at hx
    subst hx
    exact ⟨h.nd, Nat.le_refl _⟩
  | .lam t, a, up, h, m, x, hx => by
    rw [Lm.walk] at hx
    rcases List.mem_cons.1 hx with rfl | hx
    · exact ⟨h.nd, Nat.le_refl _⟩
    · have := Seg.spot h.2 _ x hx
      exact ⟨this.1, by have := this.2; simp only [Lm.sz]; omega⟩
  | .app s t, a, up, h, m, x, hx => by
    rw [Lm.walk] at hx
    rcases List.mem_cons.1 hx with rfl | hx
    · exact ⟨h.nd, Nat.le_refl _⟩
    · rcases List.mem_append.1 hx with hx | hx
      · have := Seg.spot h.2.1 _ x hx
        exact ⟨this.1, by have := this.2; simp only [Lm.sz]; omega⟩
      · have := Seg.spot h.2.2 _ x hx
        exact ⟨this.1, by have := this.2; simp only [Lm.sz]; omega⟩
/-- An application has a node behind it. -/
theorem flat_next (t : Lm) (k : Nat) (hk : k < t.sz) (h3 : (ndAt (t.flat 0 (-1)) k).k = 3) : k + 1 < t.sz := by
  have h1 : k ∈ (t.walk 0 (-1) 0).map Spot.at_ := by rw [Lm.walk_ats]; simp [List.mem_range']; omega
  obtain ⟨x, hx, rfl⟩ := List.mem_map.1 h1
  have h2 := Seg.spot (Seg.whole t) 0 x hx
  rw [h2.1] at h3
  simp only [Spot.nd] at h3
  cases hx' : x.t with
  | var n => rw [hx'] at h3; simp [Lm.kd] at h3
  | lam s => rw [hx'] at h3; simp [Lm.kd] at h3
  | app p q =>
    have h4 := h2.2
    rw [hx'] at h4
    simp only [Lm.sz] at h4
    have := p.sz_pos
    omega
def redsTo (l : List Nd) (k : Nat) : List Nat := (List.range k).filter (redN l)
theorem redsTo_succ (l : List Nd) (k : Nat) : redsTo l (k + 1) = redsTo l k ++ (if redN l k then [k] else []) := by
  unfold redsTo
  rw [List.range_succ, List.filter_append]
  congr 1
  cases h : redN l k <;> simp [List.filter, h]
theorem redsTo_le (l : List Nd) (k : Nat) : (redsTo l k).length ≤ k := by
  unfold redsTo
  exact Nat.le_trans (List.length_filter_le _ _) (by simp)

set_option maxHeartbeats 4000000 in
set_option maxRecDepth 100000 in
theorem lcRedexes_any (t : Lm) (v : Value) (w : World) (hv : NdIn w v (t.flat 0 (-1))) (hs : t.sz ≤ 1000000) :
    Calls Try.prog 67 #[v] w fun e w' => (∃ u, e = .returned u ∧ OwnR w' w.heap.size u 3 intL 1 (natsI t.reds)) ∧ Below w.heap.size w w' := by
  have HV := hideT' hv
  obtain ⟨o, cap, rfl⟩ := hv.len
  clear hv
  obtain ⟨i0, hi, hz0, hz1, hz2⟩ := info_parts info_int
  have hz := zero_term.1
  obtain ⟨l, hl⟩ : ∃ l, l = t.flat 0 (-1) := ⟨_, rfl⟩
  rw [← hl] at HV ⊢
  obtain ⟨n, hn⟩ : ∃ n, n = l.length := ⟨_, rfl⟩
  have HNS : Hid (n = t.sz) := by unfold Hid; rw [hn, hl, Lm.flat_sz]
  have HNX : Hid (∀ k, k < n → (ndAt l k).k = 3 → k + 1 < n) := fun k hk h3 => by rw [HNS.out]; exact flat_next t k (by rw [← HNS.out]; exact hk) (by rw [← hl]; exact h3)
  have HRE : Hid (redsTo l n = t.reds) := by
    unfold Hid
    rw [← redsN_flat, ← hl, hn]; rfl
  have HNN := hideT' hn
  have hn1 : n ≤ 1000000 := by rw [HNS.out]; exact hs
  rw [← hn]
  clear hn hl hs
  go_enter Try.func67, Try.ntmps67
  go_wp2_with fail
  go_loopg [3, 8] n (fun g x i wr => ∃ k : Nat, g = n - k ∧ k ≤ n ∧ i = .int .i64 (k : Int) ∧ OwnR wr w.heap.size x 3 intL 1 (natsI (redsTo l k)) ∧ Below w.heap.size w wr)
  case atStart => exact ⟨0, rfl, by omega, by go_num, World.ownsRow_nil _ _ _ _, Below.refl _ _⟩
  case round =>
    obtain ⟨k, hg, hk, rfl, hO, hW⟩ := hrel
    obtain ⟨o2, cap2, hv2⟩ := own_formT hO
    have HO := hideT' hO
    subst hv2
    by_cases hlt : (k : Int) < (n : Int)
    · obtain ⟨nd, hnd⟩ : ∃ nd, nd = ndAt l k := ⟨_, rfl⟩
      obtain ⟨b, rfl, hb, c0, c1, c2⟩ := (HV.out.below hW).cells (by have := HNN.out; omega) hnd
      have hb' : b < wr.heap.size := hb
      have hsucc := redsTo_succ l k
      have hpl := redsTo_le l k
      rw [← natsI_len] at hpl
      have HW := hideT' hW
      have hsz := hW.size
      have HKD : Hid ((ndAt l k).k = nd.k) := by unfold Hid; rw [hnd]
      clear hb hnd hO hW
      obtain ⟨kd, nm, u⟩ := nd
      simp only at c0 c1 c2 HKD
      have hAl : Below w.heap.size w (wr.alloc (.cells #[.int .i64 kd, .int .i64 nm, .int .i64 u] 69)) := HW.out.alloc hsz _
      have HAL := hideT' hAl
      clear hAl
      by_cases h3 : kd = 3
      · subst h3
        have hk1 := HNX.out k (by omega) HKD.out
        obtain ⟨nd2, hnd2⟩ : ∃ nd2, nd2 = ndAt l (k + 1) := ⟨_, rfl⟩
        obtain ⟨b2, e2, _, d0, _, _⟩ := (HV.out.below HW.out).cells (by have := HNN.out; omega) hnd2
        cases e2
        have HRN : Hid (redN l k = decide (nd2.k = 2)) := by unfold Hid redN; rw [HKD.out, ← hnd2]; simp
        clear hnd2
        obtain ⟨kd2, nm2, u2⟩ := nd2
        simp only at d0 HRN
        have hcast : ((k + 1 : Nat) : Int) = (k : Int) + 1 := by omega
        have HCA := hideT' hcast
        clear hcast
        by_cases h2 : kd2 = 2
        · have HS : Hid (natsI (redsTo l (k + 1)) = natsI (redsTo l k) ++ [(k : Int)]) := by unfold Hid; rw [hsucc, HRN.out, decide_eq_true h2]; simp [natsI]
          clear hsucc
          go_wp2_with (at_builtin; refine wpList_append_own _ rfl _ _ 24 rfl w.heap.size 3 i0 (.int .i64 0) 1 8 Try.underlying24 hi hz0 hz1 hz2 rfl (by decide) _ _ _ rfl ((HO.out.alloc _).alloc _) ⟨wr.heap.size + 1, 0, none⟩ 1 1 [.int .i64 (k : Int)] rfl rfl (by have := cell_one_new (wr.alloc (.cells #[.int .i64 3, .int .i64 nm, .int .i64 u] 69)) (.int .i64 (k : Int)) 3; rw [World.size_alloc] at this; exact this) (oneT_cell _) (by unfold maxLen; omega) (by omega) (by simp; omega) ?_; intro v' w4 hown' hgrow _)
          have hgb : ∀ g, (Value.slice o2 (natsI (redsTo l k)).length cap2).ownBlock = some g → w.heap.size ≤ g := fun g e => (HO.out.lt g e).1
          go_roundg (n - (k + 1))
          case measure => omega
          case rel =>
            refine ⟨k + 1, rfl, by omega, by go_num, ?_, ?_⟩
            · rw [HS.out]
              unfold OwnR
              rw [List.length_append, List.flatMap_append]
              exact hown'
            · exact (HAL.out.alloc (by simp; omega) _).grown hgrow (by simp; omega) (fun k hk => hgb _ hk)
        · have HS : Hid (natsI (redsTo l (k + 1)) = natsI (redsTo l k)) := by unfold Hid; rw [hsucc, HRN.out, decide_eq_false h2]; simp
          clear hsucc
          go_wp2
          go_roundg (n - (k + 1))
          case measure => omega
          case rel => exact ⟨k + 1, rfl, by omega, by go_num, by rw [HS.out]; exact HO.out.alloc _, HAL.out⟩
      · have HS : Hid (natsI (redsTo l (k + 1)) = natsI (redsTo l k)) := by unfold Hid; rw [hsucc]; unfold redN; rw [HKD.out, decide_eq_false h3]; simp
        clear hsucc
        go_wp2
        go_roundg (n - (k + 1))
        case measure => omega
        case rel => exact ⟨k + 1, rfl, by omega, by go_num, by rw [HS.out]; exact HO.out.alloc _, HAL.out⟩
    · have hkn : k = n := by omega
      subst hkn
      clear hO
      go_wp2
      go_ret
      exact ⟨⟨_, rfl, by rw [← HRE.out]; exact HO.out⟩, hW⟩

/-- The answer of both RedexesIn. -/
def RedB (l : List Nd) : Bool := goodS l
def RedL (l : List Nd) : List Int := match readP' l with | none => [] | some t => natsI t.reds
def RedOut (w : World) (l : List Nd) (e : Ending) (w' : World) : Prop :=
  ∃ u, e = .returned (.tuple #[u, .bool (RedB l)]) ∧ OwnR w' w.heap.size u 3 intL 1 (RedL l)
theorem own_keep' {w w' : World} {B n s : Nat} {T : TypeId} {v : Value} {xs : List Value} {row : Option Nat} (h : w.ownsRow B T s v n xs) (hg : w.grownBy w' row) (hr : ∀ g, v.ownBlock = some g → some g ≠ row) : w'.ownsRow B T s v n xs :=
  own_keep h (fun g e => hg.block g (h.lt g e).2 (hr g e))
theorem readP'_good {l : List Nd} {t : Lm} (h : readP' l = some t) : l = t.flat 0 (-1) ∧ t.sz ≤ 150 := by
  have := (readP'_iff l t).1 h
  exact ⟨this.1, (Lm.good_sz this.2).1⟩
theorem RedL_len (l : List Nd) : (RedL l).length ≤ 1048576 := by
  unfold RedL
  split
  · simp
  · next t h =>
    have h1 := (readP'_good h).2
    rw [natsI_len]
    unfold Lm.reds
    rw [List.length_map]
    have h2 := List.length_filter_le (fun x : Spot => x.t.isRed) (t.walk 0 (-1) 0)
    rw [Lm.walk_len] at h2
    omega
end Go.Proofs.Ytbkdlkpiaekblaa

/-
  Rows of Comb that are answers: what the laws' own helpers over them say.
-/
namespace Go.Proofs.Ytbkdlkpiaekblaa
open Go.RowKit
set_option linter.unusedVariables false
/-- One that is marked. -/
def markComb (k : Int) : Int × Int × Int := (k, k + 1, k + 1 + 1)
theorem runX_comb {o : Oper} {a : Act} {w : World} (x : Operand) (ho : o.op = .load 94 x) (b i : Nat) (hx : a.eval x = .pointer (some ⟨b, i * 3, none⟩)) (d : Int × Int × Int) (hD : w.rangeAt b (i * 3) (combL d)) :
    (execOp a.eval o).run Try.prog w = .ok (.value (.agg (combL d).toArray)) w := by
  have h := run_loadAt_mid (P := Try.prog) w b (i * 3) 94 (combL d) _ hD Try.underlying94 rfl zero_comb.2
  unfold execOp
  simp only [ho, hx, Sem.run_bind, h, Result.andThen_ok]
  rfl
set_option maxHeartbeats 1000000 in
set_option maxRecDepth 100000 in
theorem eqCombS_in (v1 v2 : Value) (l : List (Int × Int × Int)) (w : World) (hl : l.length ≤ 1048576) (h1 : InR w v1 combL 3 l) (h2 : InR w v2 combL 3 l) :
    Calls Try.prog 39 #[v1, v2] w fun e w' => e = .returned (.bool true) ∧ Below w.heap.size w w' := by
  obtain ⟨o1, cap1, rfl, h1⟩ := h1
  obtain ⟨o2, cap2, rfl, h2⟩ := h2
  rcases Classical.em (l = []) with rfl | hne
  · clear h1 h2
    go_enter Try.func39, Try.ntmps39
    go_wp2_with fail
    go_loopg [5] 0 (fun g i wr => i = .int .i64 0 ∧ wr = w)
    case atStart => exact ⟨rfl, rfl⟩
    case round =>
      obtain ⟨rfl, rfl⟩ := hrel
      go_wp2
      go_ret
      exact ⟨rfl, Below.refl _ _⟩
  obtain ⟨b1, rfl, hb1, h1⟩ := h1 hne
  obtain ⟨b2, rfl, hb2, h2⟩ := h2 hne
  have H1 := hideT' h1
  have H2 := hideT' h2
  clear h1 h2 hne
  go_enter Try.func39, Try.ntmps39
  go_wp2_with fail
  go_loopg [5] l.length (fun g i wr => ∃ k : Nat, g = l.length - k ∧ k ≤ l.length ∧ i = .int .i64 (k : Int) ∧ Below w.heap.size w wr)
  case atStart => exact ⟨0, rfl, by omega, rfl, Below.refl _ _⟩
  case round =>
    obtain ⟨k, hg, hk, rfl, hW⟩ := hrel
    by_cases hlt : (k : Int) < (l.length : Int)
    · have hk' : k < l.length := by omega
      obtain ⟨d, hd⟩ : ∃ d, d = l.getD k default := ⟨_, rfl⟩
      have HDM := hideT' hd
      have h1 := H1.out
      have h2 := H2.out
      clear hd
      have hrg : ∀ w', Below w.heap.size w w' → w'.rangeAt b1 (k * 3) (combL d) ∧ w'.rangeAt b2 (k * 3) (combL d) := fun w' hB => by
        refine ⟨fun j u hu => ?_, fun j u hu => ?_⟩
        · rw [hB.cell (p := ⟨b1, k * 3 + j, none⟩) hb1]; rw [HDM.out] at hu; exact h1 k j u hk' hu
        · rw [hB.cell (p := ⟨b2, k * 3 + j, none⟩) hb2]; rw [HDM.out] at hu; exact h2 k j u hk' hu
      have HRG := hideT' hrg
      have hS := hrg wr.drew (Below.drew hW)
      clear h1 h2 hrg
      go_wp2_with fail
      refine held_begin (fun w' => w'.rangeAt b1 (k * 3) (combL d) ∧ w'.rangeAt b2 (k * 3) (combL d)) (by kernel_rfl) ?_
      refine held_val 0 (some 17) rfl rfl (by kernel_rfl) (by kernel_rfl) (by kernel_rfl) noPanic_put rfl (.slice (some ⟨b1, 0, none⟩) l.length cap1) (fun _ => rfl) hS ?_
      simp only [Act.put, List.setIfInBounds_toArray, List.set_cons_zero, List.set_cons_succ]
      refine held_val 1 (some 18) rfl rfl (by kernel_rfl) (by kernel_rfl) (by kernel_rfl) noPanic_put rfl (.int .i64 (k : Int)) (fun _ => rfl) hS ?_
      simp only [Act.put, List.setIfInBounds_toArray, List.set_cons_zero, List.set_cons_succ]
      refine held_val 2 (some 19) rfl rfl (by kernel_rfl) (by kernel_rfl) (by kernel_rfl) noPanic_put rfl (.pointer (some ⟨b1, k * 3, none⟩)) (fun _ => by go_simp) hS ?_
      simp only [Act.put, List.setIfInBounds_toArray, List.set_cons_zero, List.set_cons_succ]
      refine held_valS 3 (some 20) rfl rfl (by kernel_rfl) (by kernel_rfl) (by kernel_rfl) noPanic_put rfl (.agg (combL d).toArray) (fun _ hw' => runX_comb _ rfl b1 k rfl d hw'.1) hS ?_
      simp only [Act.put, List.setIfInBounds_toArray, List.set_cons_zero, List.set_cons_succ]
      refine held_val 4 (some 21) rfl rfl (by kernel_rfl) (by kernel_rfl) (by kernel_rfl) noPanic_put rfl (.slice (some ⟨b2, 0, none⟩) l.length cap2) (fun _ => rfl) hS ?_
      simp only [Act.put, List.setIfInBounds_toArray, List.set_cons_zero, List.set_cons_succ]
      refine held_val 5 (some 22) rfl rfl (by kernel_rfl) (by kernel_rfl) (by kernel_rfl) noPanic_put rfl (.int .i64 (k : Int)) (fun _ => rfl) hS ?_
      simp only [Act.put, List.setIfInBounds_toArray, List.set_cons_zero, List.set_cons_succ]
      refine held_val 6 (some 23) rfl rfl (by kernel_rfl) (by kernel_rfl) (by kernel_rfl) noPanic_put rfl (.pointer (some ⟨b2, k * 3, none⟩)) (fun _ => by go_simp) hS ?_
      simp only [Act.put, List.setIfInBounds_toArray, List.set_cons_zero, List.set_cons_succ]
      refine held_valS 7 (some 24) rfl rfl (by kernel_rfl) (by kernel_rfl) (by kernel_rfl) noPanic_put rfl (.agg (combL d).toArray) (fun _ hw' => runX_comb _ rfl b2 k rfl d hw'.2) hS ?_
      simp only [Act.put, List.setIfInBounds_toArray, List.set_cons_zero, List.set_cons_succ]
      refine held_call 8 (some 25) (by kernel_rfl) rfl rfl rfl 80 #[.agg (combL d).toArray, .agg (combL d).toArray] (by go_simp) _ (eqComb_any d wr.drew) ?_
      rintro e w2 ⟨rfl, hW2⟩
      have hW2 : Below wr.heap.size wr w2 := ⟨hW2.os, hW2.tape, hW2.output, hW2.size, hW2.block⟩
      have hW3 := hW.trans (hW2.mono hW.size)
      have hS2 := HRG.out w2 hW3
      refine ⟨_, rfl, hS2, ?_⟩
      simp only [Act.put, List.setIfInBounds_toArray, List.set_cons_zero, List.set_cons_succ]
      refine held_val 9 (some 26) rfl rfl (by kernel_rfl) (by kernel_rfl) (by kernel_rfl) noPanic_put rfl (.bool false) (fun _ => by go_simp) hS2 ?_
      simp only [Act.put, List.setIfInBounds_toArray, List.set_cons_zero, List.set_cons_succ]
      refine wpAnyH_done (by kernel_rfl) ?_ _
      refine NoPanic.normal ?_
      go_wp2
      go_roundg (l.length - (k + 1))
      case measure => omega
      case rel => exact ⟨k + 1, rfl, by omega, by go_num, hW3⟩
    · go_wp2
      go_ret
      exact ⟨rfl, hW⟩
set_option maxHeartbeats 2000000 in
set_option maxRecDepth 100000 in
theorem markCombS_own (v : Value) (n : Nat) (xs0 : List Value) (k : Int) (B : Nat) (w : World) (hk0 : 0 < k) (hk1 : k + 3 * (n : Int) ≤ 1099511627776) (h : w.ownsRow B 94 3 v n xs0) :
    Calls Try.prog 42 #[v, .int .i64 k] w fun e w' => e = .returned (.int .i64 (k + 3 * (n : Int))) ∧ OwnR w' B v 94 combL 3 (markL markComb 3 k n) ∧ w.grownBy w' v.ownBlock := by
  rcases h.2 with ⟨rfl, rfl⟩ | ⟨b, cap, cur, rfl, hB, _⟩
  · have hx : k + 3 * ((0 : Nat) : Int) = k := by simp
    rw [hx]
    clear hx hk1
    go_enter Try.func42, Try.ntmps42
    go_wp2_with fail
    go_loopg [1, 5] 0 (fun g x i wr => x = .int .i64 k ∧ i = .int .i64 0 ∧ wr = w)
    case atStart => exact ⟨rfl, rfl, rfl⟩
    case round =>
      obtain ⟨rfl, rfl, rfl⟩ := hrel
      go_wp2
      go_ret
      exact ⟨rfl, by simpa [OwnR, markL] using World.ownsRow_nil _ _ _ _, ⟨rfl, rfl, rfl, Nat.le_refl _, fun _ _ _ => rfl⟩⟩
  · obtain ⟨N, hN⟩ : ∃ N : Int, N = k + 3 * (n : Int) := ⟨_, rfl⟩
    have HN := hideT' hN
    have HB := hideT' hk1
    clear hN hk1
    go_enter Try.func42, Try.ntmps42
    go_wp2_with fail
    go_loopg [1, 5] n (fun g x i wr => ∃ (j : Nat) (y : Int) (xs : List Value), g = n - j ∧ j ≤ n ∧ i = .int .i64 (j : Int) ∧ x = .int .i64 y ∧ 0 < y ∧ y ≤ 1099511627776 ∧ Hid (y = k + 3 * (j : Int)) ∧ wr.ownsRow B 94 3 (.slice (some ⟨b, 0, none⟩) n cap) n xs ∧ Hid (Marked combL markComb 3 k j xs) ∧ w.grownBy wr (some b))
    case atStart => exact ⟨0, k, xs0, rfl, by omega, rfl, rfl, by omega, by have := HB.out; omega, by simp [Hid], h, (fun j hj => by omega : Marked combL markComb 3 k 0 xs0), ⟨rfl, rfl, rfl, Nat.le_refl _, fun _ _ _ => rfl⟩⟩
    case round =>
      clear h
      obtain ⟨j, x, xs, hg, hj, rfl, rfl, hx0, hx1, HX, hown, HM, hG⟩ := hrel
      by_cases hlt : (j : Int) < (n : Int)
      · have hj' : j < n := by omega
        have HJ : Hid (j * 3 + 3 ≤ n * 3) := by unfold Hid; omega
        have hx2 : x + 3 ≤ 1099511627776 := by have := HB.out; have := HX.out; omega
        go_wp2_with (first | (refine store_own rfl 3 _ _ rfl rfl b (j * 3) (.int .i64 (x)) rfl rfl size1_int rfl hown (by have := HJ.out; omega) ?_; intro w1 own1 hg1 hs1) | (refine store_own rfl 3 _ _ rfl rfl b (j * 3 + 1) (.int .i64 (x + 1)) rfl rfl size1_int rfl own1 (by have := HJ.out; omega) ?_; intro w2 own2 hg2 hs2) | (refine store_own rfl 3 _ _ rfl rfl b (j * 3 + 2) (.int .i64 (x + 1 + 1)) rfl rfl size1_int rfl own2 (by have := HJ.out; omega) ?_; intro w3 own3 hg3 hs3))
        go_roundg (n - (j + 1))
        case measure => omega
        case rel =>
          have hbb := HB.out
          refine ⟨j + 1, x + 3, _, rfl, by omega, congrArg (Value.int .i64) (by unfold wrap64; omega), congrArg (Value.int .i64) (by omega), by omega, hx2, by have := HX.out; unfold Hid; omega, own3, ?_, (grownX_trans (grownX_trans (grownX_trans hG hg1) hg2) hg3)⟩
          intro i hi q hq
          by_cases e : i = j
          · subst e
            have hxe : k + ((3 : Nat) : Int) * (i : Int) = x := by have := HX.out; omega
            rw [hxe]
            have hl1 := hown.1
            match q, hq with
            | 0, _ => simp [List.getElem?_set, combL, markComb]; omega
            | 1, _ => simp [List.getElem?_set, combL, markComb]; omega
            | 2, _ => simp [List.getElem?_set, combL, markComb]; omega
          · exact (((HM.out.set (j * 3) (.int .i64 (x)) (by omega)).set (j * 3 + 1) (.int .i64 (x + 1)) (by omega)).set (j * 3 + 2) (.int .i64 (x + 1 + 1)) (by omega)) i (by omega) q hq
      · have hjn : j = n := by omega
        subst hjn
        have hxs := HM.out.all combL_len hown.1
        rw [hxs] at hown
        have HO := hideT' hown
        clear hown hxs
        have HXN : Hid (x = N) := by unfold Hid; rw [HX.out, HN.out]
        go_wp2
        go_ret
        refine ⟨by rw [← HN.out, ← HXN.out]; rfl, ?_, hG⟩
        have := HO.out
        unfold OwnR
        rw [markL_len]
        exact this
set_option maxHeartbeats 2000000 in
set_option maxRecDepth 100000 in
theorem heldCombS_in (v : Value) (n : Nat) (k : Int) (w : World) (hk0 : 0 < k) (hk1 : k + 3 * (n : Int) ≤ 1099511627776) (h : InR w v combL 3 (markL markComb 3 k n)) :
    Calls Try.prog 43 #[v, .int .i64 k] w fun e w' => e = .returned (.int .i64 (k + 3 * (n : Int))) ∧ Below w.heap.size w w' := by
  obtain ⟨o, cap, rfl, h⟩ := h
  rw [markL_len]
  rcases Nat.eq_zero_or_pos n with rfl | hn
  · have hx : k + 3 * ((0 : Nat) : Int) = k := by simp
    rw [hx]
    clear hx hk1 h
    go_enter Try.func43, Try.ntmps43
    go_wp2_with fail
    go_loopg [1, 5] 0 (fun g x i wr => x = .int .i64 k ∧ i = .int .i64 0 ∧ wr = w)
    case atStart => exact ⟨rfl, rfl, rfl⟩
    case round =>
      obtain ⟨rfl, rfl, rfl⟩ := hrel
      go_wp2
      go_ret
      exact ⟨rfl, Below.refl _ _⟩
  obtain ⟨b, rfl, hb, h1⟩ := h (by intro e; have := congrArg List.length e; rw [markL_len] at this; simp at this; omega)
  obtain ⟨N, hN⟩ : ∃ N : Int, N = k + 3 * (n : Int) := ⟨_, rfl⟩
  have HN := hideT' hN
  have HB := hideT' hk1
  have H1 := hideT' h1
  clear hN hk1 h1 h
  go_enter Try.func43, Try.ntmps43
  go_wp2_with fail
  go_loopg [1, 5] n (fun g x i wr => ∃ (j : Nat) (y : Int), g = n - j ∧ j ≤ n ∧ i = .int .i64 (j : Int) ∧ x = .int .i64 y ∧ 0 < y ∧ y ≤ 1099511627776 ∧ Hid (y = k + 3 * (j : Int)) ∧ Below w.heap.size w wr)
  case atStart => exact ⟨0, k, rfl, by omega, rfl, rfl, by omega, by have := HB.out; omega, by simp [Hid], Below.refl _ _⟩
  case round =>
    obtain ⟨j, x, hg, hj, rfl, rfl, hx0, hx1, HX, hW⟩ := hrel
    by_cases hlt : (j : Int) < (n : Int)
    · have hj' : j < n := by omega
      have hx2 : x + 3 ≤ 1099511627776 := by have := HB.out; have := HX.out; omega
      have hxe : k + ((3 : Nat) : Int) * (j : Int) = x := by have := HX.out; omega
      have hcell : ∀ q u, (combL (markComb x))[q]? = some u → wr.cell? ⟨b, j * 3 + q, none⟩ = some u := fun q u hu => by
        have := H1.out j q u (by rw [markL_len]; exact hj') (by rw [markL_get markComb 3 k n j hj', hxe]; exact hu)
        exact (hW.cell (p := ⟨b, j * 3 + q, none⟩) hb).trans this
      have c0 := hcell 0 (.int .i64 (x)) rfl
      have c1 := hcell 1 (.int .i64 (x + 1)) rfl
      have c2 := hcell 2 (.int .i64 (x + 1 + 1)) rfl
      rw [Nat.add_zero] at c0
      have HC := hideT' hcell
      clear hcell hxe
      go_wp2
      go_roundg (n - (j + 1))
      case measure => omega
      case rel =>
        have hbb := HB.out
        exact ⟨j + 1, x + 3, rfl, by omega, congrArg (Value.int .i64) (by unfold wrap64; omega), congrArg (Value.int .i64) (by omega), by omega, hx2, by have := HX.out; unfold Hid; omega, hW⟩
    · have hjn : j = n := by omega
      have HXN : Hid (x = N) := by unfold Hid; rw [HX.out, HN.out, hjn]
      go_wp2
      go_ret
      exact ⟨by rw [← HN.out, ← HXN.out]; rfl, hW⟩
end Go.Proofs.Ytbkdlkpiaekblaa

/-
  Nodes that came in as an argument: what their reading says of the cells.
-/
namespace Go.Proofs.Ytbkdlkpiaekblaa.CB
open Go.ChangeShapes Go.WideShapes Go.ChangeAt Go.RowKit
set_option linter.unusedVariables false

def ndsOf (l : List (Int × Int × Int)) : List Nd := l.map fun x => ⟨x.1, x.2.1, x.2.2⟩
theorem tri_ndsOf (l : List (Int × Int × Int)) : tri (ndsOf l) = l := by
  unfold tri ndsOf triN
  rw [List.map_map]
  exact List.map_id' l
theorem ndsOf_len (l : List (Int × Int × Int)) : (ndsOf l).length = l.length := by simp [ndsOf]
theorem ndsOf_tri (l : List Nd) : ndsOf (tri l) = l := by
  unfold tri ndsOf triN
  rw [List.map_map]
  exact List.map_id' l
theorem RecAt.nds {w : World} {b : Nat} {T : TypeId} {l : List (Int × Int × Int)} (h : RecAt w b T combL l) : NdIn w (slR b l) (ndsOf l) := by
  unfold NdIn
  rw [tri_ndsOf]
  exact h.inR combL_len

theorem cells_intT : Try.prog.cellsOf 3 = 1 := by kernel_rfl
set_option maxRecDepth 100000 in
theorem open_term {H : Type} {enc : TypeId × Value → H} {W : World} (n : Nat) (cs : List Value) (x : DataW H × List MemPlace) (hl : cs.length = 3) (h : DataW.trod enc Try.prog W 0 (fun _ => true) true n 97 cs = some x) :
    ∃ d : Int × Int × Int, cs = combL d ∧ True := by
  obtain ⟨xs, m, _, _, _, hlen, hf⟩ := DataW.trod_struct Try.underlying97 h
  obtain ⟨a, b, c, rfl⟩ : ∃ a b c, cs = [a, b, c] := by
    match cs, hl with
    | [a, b, c], _ => exact ⟨a, b, c, rfl⟩
  obtain ⟨y0, y1, y2, rfl⟩ : ∃ y0 y1 y2, xs = [y0, y1, y2] := by
    match xs, hlen with
    | [y0, y1, y2], _ => exact ⟨y0, y1, y2, rfl⟩
  have g0 : DataW.trod enc Try.prog W 0 (fun _ => true) true m 3 (([a, b, c].drop 0).take (Try.prog.cellsOf 3)) = some y0 := by simpa using hf 0 _ rfl
  have g1 : DataW.trod enc Try.prog W 0 (fun _ => true) true m 3 (([a, b, c].drop 1).take (Try.prog.cellsOf 3)) = some y1 := by simpa using hf 1 _ rfl
  have g2 : DataW.trod enc Try.prog W 0 (fun _ => true) true m 3 (([a, b, c].drop 2).take (Try.prog.cellsOf 3)) = some y2 := by simpa using hf 2 _ rfl
  rw [cells_intT] at g0 g1 g2
  obtain ⟨k, e0, _, _⟩ := DataW.trod_int Try.underlying3 g0
  obtain ⟨u, e1, _, _⟩ := DataW.trod_int Try.underlying3 g1
  obtain ⟨t, e2, _, _⟩ := DataW.trod_int Try.underlying3 g2
  simp at e0 e1 e2
  exact ⟨(k, u, t), by rw [e0, e1, e2]; rfl, trivial⟩
theorem cells_lterm : Try.prog.cellsOf 97 = 3 := by kernel_rfl

set_option maxRecDepth 100000 in
theorem open_terms {H : Type} {enc : TypeId × Value → H} {W : World} {base : Nat} {v : Value} {d : DataW H} {ps : List MemPlace} (hval : Value.okWide Try.prog W .any base 44 v) (h : DataW.Trod enc Try.prog W 0 (fun _ => true) true 44 v d ps) :
    ∃ l : List (Int × Int × Int), SlR W v combL 3 l ∧ l.length ≤ maxLen := by
  obtain ⟨a0, len, cap, rfl⟩ := okWide_slice Try.underlying44 hval
  obtain ⟨fuel, hf⟩ := h
  obtain ⟨v', l, e1, hL, q1, q2⟩ := open_recs combL 3 (by decide) combL_len (fun _ => True) Try.underlying44 cells_lterm open_term hf
  have e2 : Value.slice a0 len cap = v' := by simpa [Value.cells] using e1
  rw [e2]
  exact ⟨l, hL, q2⟩
end Go.Proofs.Ytbkdlkpiaekblaa.CB
