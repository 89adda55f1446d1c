/-
  The texts CbTermOps, CbTreeMem, CbTreeRead, CbTreeTop, CbWalkT, CbWalkFrom, CbMeth, CbImplIsGood, CbImplTell, CbSpecParts, CbLcMem, CbSpecTree, one behind the other, as one.
-/
import Derived.Test.YtgolfbjfopoeeaaDoorCombMath
import Derived.Test.YtgolfbjfopoeeaaDoorCbTreeOf
import Derived.Test.YtgolfbjfopoeeaaDoorRecs2
import Derived.Deep.QuietTactic
import Derived.BigQuiet
import Derived.Test.YtgolfbjfopoeeaaDoorRangeOwn
import Derived.Test.YtgolfbjfopoeeaaDoorFloat
import Derived.Test.YtgolfbjfopoeeaaDoorBaseLate
import Derived.RangeFuncBound
import Derived.Shelf.Abstract
import Derived.Shelf.RegionOpen
import Derived.WalkKit
import Derived.OwnWalkIn
import Derived.TacticsInMore
import Derived.LoopNIn
import Derived.LoopIn
import Derived.Test.YtgolfbjfopoeeaaDoorCbTermImpl
import Derived.Test.YtgolfbjfopoeeaaDoorRangeRet
import Derived.Test.YtgolfbjfopoeeaaDoorImplRed
import Derived.Maps.OwnIn
import Derived.Test.YtgolfbjfopoeeaaDoorRecInt
import Derived.Test.YtgolfbjfopoeeaaDoorL1In
import Derived.OwnWalk

/-
  What is done to terms: texts, free variables, shifting, putting in, redexes, reducing (plain).
-/
namespace Go.Proofs.YtgolfbjfopoeeaaDoor.CB
set_option linter.unusedVariables false

/-- A place that a walk comes by: its number, that of the node around it, how many lambdas are around, and what stands there. -/
structure Spot where
  at_ : Nat
  up : Int
  lam : Nat
  t : Lm
def Lm.walk : Lm → Nat → Int → Nat → List Spot
  | .var n, a, u, m => [⟨a, u, m, .var n⟩]
  | .app s t, a, u, m => ⟨a, u, m, .app s t⟩ :: (s.walk (a + 1) a m ++ t.walk (a + 1 + s.sz) a m)
def Spot.nd (x : Spot) : Nd := ⟨x.t.kd, x.t.nm, x.up⟩
theorem Lm.walk_flat : ∀ (t : Lm) (a : Nat) (u : Int) (m : Nat), (t.walk a u m).map Spot.nd = t.flat a u
  | .var n, a, u, m => rfl
  | .app s t, a, u, m => by rw [Lm.walk, List.map_cons, List.map_append, Lm.walk_flat s, Lm.walk_flat t, Lm.flat]; rfl
theorem Lm.walk_len (t : Lm) (a : Nat) (u : Int) (m : Nat) : (t.walk a u m).length = t.sz := by
  have := congrArg List.length (t.walk_flat a u m)
  rwa [List.length_map, Lm.flat_sz] at this
/-- The parts' sizes and depths are no more than the whole one's. -/
theorem Lm.walk_sub : ∀ (t : Lm) (a : Nat) (u : Int) (m : Nat) (x : Spot), x ∈ t.walk a u m → x.t.sz ≤ t.sz ∧ x.t.dp ≤ t.dp ∧ a ≤ x.at_ ∧ x.at_ < a + t.sz ∧ x.lam + x.t.dp ≤ m + t.dp
  | .var n, a, u, m, x, h => by
    simp only [Lm.walk, List.mem_singleton] at h
    subst h
    simp only [Lm.sz, Lm.dp]; omega
  | .app s t, a, u, m, x, h => by
    rw [Lm.walk] at h
    rcases List.mem_cons.1 h with rfl | h
    · simp only [Lm.sz, Lm.dp]; omega
    · rcases List.mem_append.1 h with h | h
      · have := Lm.walk_sub s _ _ _ x h
        simp only [Lm.sz, Lm.dp]; omega
      · have := Lm.walk_sub t _ _ _ x h
        simp only [Lm.sz, Lm.dp]; omega
theorem Lm.walk_ok : ∀ (t : Lm) (a : Nat) (u : Int) (m : Nat), t.ok = (t.walk a u m).all fun x => match x.t with | .var n => n.ok | _ => true
  | .var n, a, u, m => by simp [Lm.walk, Lm.ok]
  | .app s t, a, u, m => by rw [Lm.walk, List.all_cons, List.all_append, ← Lm.walk_ok s, ← Lm.walk_ok t]; simp [Lm.ok]

theorem Lm.walk_ats : ∀ (t : Lm) (a : Nat) (u : Int) (m : Nat), (t.walk a u m).map Spot.at_ = List.range' a t.sz
  | .var n, a, u, m => rfl
  | .app s t, a, u, m => by
    rw [Lm.walk, List.map_cons, List.map_append, Lm.walk_ats s, Lm.walk_ats t, Lm.sz, List.range'_succ]
    congr 1
    rw [← List.range'_append (s := a + 1) (m := s.sz) (n := t.sz) (step := 1)]
    simp
theorem Lm.good_sz {t : Lm} (h : t.good = true) : t.sz ≤ 200 ∧ t.dp ≤ 60 ∧ t.ok = true := by
  unfold Lm.good at h
  simp only [Bool.and_eq_true, decide_eq_true_eq] at h
  exact ⟨h.2.1, h.2.2, h.1⟩
end Go.Proofs.YtgolfbjfopoeeaaDoor.CB

/-
  Trees of nodes in memory, and how a row of nodes is read as one (the program's side).
-/
namespace Go.Proofs.YtgolfbjfopoeeaaDoor.CB
open Go.RowKit
set_option linter.unusedVariables false

/-- Nodes as the laws' helpers have them. -/
def triN (d : Nd) : Int × Int × Int := (d.k, d.n, d.u)
def tri (l : List Nd) : List (Int × Int × Int) := l.map triN
theorem tri_len (l : List Nd) : (tri l).length = l.length := by simp [tri]
theorem tri_get (l : List Nd) (i : Nat) : (tri l).getD i default = triN (ndAt l i) := by
  unfold tri ndAt
  simp only [List.getD, List.getElem?_map]
  cases l[i]? <;> rfl
def NdIn (w : World) (v : Value) (l : List Nd) : Prop := InR w v combL 3 (tri l)
theorem NdIn.below {w w' : World} {v : Value} {l : List Nd} (h : NdIn w v l) (hB : Below w.heap.size w w') : NdIn w' v l := InR.below h hB
theorem NdIn.len {w : World} {v : Value} {l : List Nd} (h : NdIn w v l) : ∃ o cap, v = .slice o l.length cap := by
  obtain ⟨o, cap, e, _⟩ := h
  exact ⟨o, cap, by rw [e, tri_len]⟩
theorem NdIn.cells {w : World} {o : Option Addr} {n cap : Nat} {l : List Nd} (h : NdIn w (.slice o n cap) l) {i : Nat} (hi : i < l.length) {d : Nd} (hd : d = ndAt l i) :
    ∃ g, o = some ⟨g, 0, none⟩ ∧ g < w.heap.size ∧ w.cell? ⟨g, i * 3, none⟩ = some (.int .i64 d.k) ∧ w.cell? ⟨g, i * 3 + 1, none⟩ = some (.int .i64 d.n) ∧ w.cell? ⟨g, i * 3 + 2, none⟩ = some (.int .i64 d.u) := by
  obtain ⟨o', cap', e, h⟩ := h
  cases e
  have hi' : i < (tri l).length := by rw [tri_len]; exact hi
  obtain ⟨g, rfl, hlt, hc⟩ := h (by intro e; rw [e] at hi'; simp at hi')
  subst hd
  exact ⟨g, rfl, hlt, hc i 0 _ hi' (by rw [tri_get]; rfl), hc i 1 _ hi' (by rw [tri_get]; rfl), hc i 2 _ hi' (by rw [tri_get]; rfl)⟩

/-- A tree in memory, in blocks of P alone. -/
def TrIn (w : World) (P : Nat → Prop) : Lm → Nat → Prop
  | .var n, b => P b ∧ ∃ u o c, RowAt w b 118 (treeC n.kd n.nm u (.slice o 0 c) 1 1)
  | .app s t, b => P b ∧ ∃ u g c b1 b2, RowAt w b 118 (treeC 2 0 u (.slice (some ⟨g, 0, none⟩) 2 c) (s.sz + t.sz + 1) (max s.dp t.dp + 1)) ∧ (g < w.heap.size ∧ P g) ∧ w.cell? ⟨g, 0, none⟩ = some (.pointer (some ⟨b1, 0, none⟩)) ∧ w.cell? ⟨g, 1, none⟩ = some (.pointer (some ⟨b2, 0, none⟩)) ∧ TrIn w P s b1 ∧ TrIn w P t b2
theorem TrIn.lt {w : World} {P : Nat → Prop} : ∀ {t : Lm} {b : Nat}, TrIn w P t b → b < w.heap.size
  | .var n, b, h => by obtain ⟨_, u, o, c, h⟩ := h; exact h.lt
  | .app s t, b, h => by obtain ⟨_, u, g, c, b1, b2, h, _⟩ := h; exact h.lt
/-- It stays where its blocks do. -/
theorem TrIn.keep {w w' : World} {P Q : Nat → Prop} (hw : w.heap.size ≤ w'.heap.size) (hk : ∀ x, P x → x < w.heap.size → w'.heap[x]? = w.heap[x]?) (hQ : ∀ x, P x → x < w.heap.size → Q x) : ∀ {t : Lm} {b : Nat}, TrIn w P t b → TrIn w' Q t b
  | .var n, b, h => by
    obtain ⟨hp, u, o, c, h⟩ := h
    exact ⟨hQ _ hp h.lt, u, o, c, by unfold RowAt; rw [hk _ hp h.lt]; exact h⟩
  | .app s t, b, h => by
    obtain ⟨hp, u, g, c, b1, b2, h, hg, hc, hc2, h1, h2⟩ := h
    exact ⟨hQ _ hp h.lt, u, g, c, b1, b2, by unfold RowAt; rw [hk _ hp h.lt]; exact h, ⟨Nat.lt_of_lt_of_le hg.1 hw, hQ _ hg.2 hg.1⟩, by rw [World.cell?_of_block (w := w) (a := ⟨g, 0, none⟩) (hk _ hg.2 hg.1)]; exact hc, by rw [World.cell?_of_block (w := w) (a := ⟨g, 1, none⟩) (hk _ hg.2 hg.1)]; exact hc2, TrIn.keep hw hk hQ h1, TrIn.keep hw hk hQ h2⟩
theorem TrIn.below {w w' : World} {P : Nat → Prop} (hB : Below w.heap.size w w') {t : Lm} {b : Nat} (h : TrIn w P t b) : TrIn w' P t b := TrIn.keep hB.size (fun x _ hx => hB.block x hx) (fun _ h _ => h) h
theorem TrIn.mono {w : World} {P Q : Nat → Prop} (hQ : ∀ x, P x → x < w.heap.size → Q x) {t : Lm} {b : Nat} (h : TrIn w P t b) : TrIn w Q t b := TrIn.keep (Nat.le_refl _) (fun _ _ _ => rfl) hQ h
theorem TrIn.grown {w w' : World} {P : Nat → Prop} {r : Nat} (hg : w.grownBy w' (some r)) (hr : ¬ P r) {t : Lm} {b : Nat} (h : TrIn w P t b) : TrIn w' P t b := TrIn.keep hg.size (fun x hx hl => hg.block x hl (by intro e; injection e with e; subst e; exact hr hx)) (fun _ h _ => h) h
abbrev TrAt (w : World) (t : Lm) (b : Nat) : Prop := TrIn w (fun _ => True) t b
theorem TrIn.at {w : World} {P : Nat → Prop} {t : Lm} {b : Nat} (h : TrIn w P t b) : TrAt w t b := h.mono fun _ _ _ => trivial
/-- Its first six cells. -/
theorem TrIn.head {w : World} {P : Nat → Prop} {t : Lm} {b : Nat} (h : TrIn w P t b) : ∃ u v, RowAt w b 118 (treeC t.kd t.nm u v t.sz t.dp) := by
  cases t with
  | var n => obtain ⟨_, u, o, c, h⟩ := h; exact ⟨u, _, h⟩
  | app s t => obtain ⟨_, u, g, c, b1, b2, h, _⟩ := h; exact ⟨u, _, h⟩
theorem TrIn.size {w : World} {P : Nat → Prop} {t : Lm} {b : Nat} (h : TrIn w P t b) : w.cell? ⟨b, 4, none⟩ = some (.int .i64 (t.sz : Int)) := by
  obtain ⟨u, v, h⟩ := h.head
  rw [cell_of_row _ _ _ _ _ _ h]; rfl
theorem TrIn.deep {w : World} {P : Nat → Prop} {t : Lm} {b : Nat} (h : TrIn w P t b) : w.cell? ⟨b, 5, none⟩ = some (.int .i64 (t.dp : Int)) := by
  obtain ⟨u, v, h⟩ := h.head
  rw [cell_of_row _ _ _ _ _ _ h]; rfl
theorem TrIn.kind {w : World} {P : Nat → Prop} {t : Lm} {b : Nat} (h : TrIn w P t b) : w.cell? ⟨b, 0, none⟩ = some (.int .i64 t.kd) := by
  obtain ⟨u, v, h⟩ := h.head
  rw [cell_of_row _ _ _ _ _ _ h]; rfl
theorem TrIn.name {w : World} {P : Nat → Prop} {t : Lm} {b : Nat} (h : TrIn w P t b) : w.cell? ⟨b, 1, none⟩ = some (.int .i64 t.nm) := by
  obtain ⟨u, v, h⟩ := h.head
  rw [cell_of_row _ _ _ _ _ _ h]; rfl

/-- Trees in the blocks of a list, as treeOf takes them. -/
def KidsAt (w : World) (P : Nat → Prop) (v : Value) (ks : List (Nat × Lm)) : Prop :=
  ∃ o cap, v = .slice o ks.length cap ∧ (ks ≠ [] → ∃ g, o = some ⟨g, 0, none⟩ ∧ (g < w.heap.size ∧ P g) ∧ ∀ i p, ks[i]? = some p → w.cell? ⟨g, i, none⟩ = some (.pointer (some ⟨p.1, 0, none⟩))) ∧ ∀ p ∈ ks, TrIn w P p.2 p.1
def ptsOf (ks : List (Nat × Lm)) : List (Nat × Nat × Nat) := ks.map fun p => (p.1, p.2.sz, p.2.dp)
theorem KidsAt.pts {w : World} {P : Nat → Prop} {v : Value} {ks : List (Nat × Lm)} (h : KidsAt w P v ks) : PtsAt w v (ptsOf ks) := by
  obtain ⟨o, cap, rfl, h1, h2⟩ := h
  refine ⟨o, cap, by simp [ptsOf], fun hn => ?_, fun p hp => ?_⟩
  · obtain ⟨g, e, hg, hc⟩ := h1 (by rintro rfl; exact hn rfl)
    refine ⟨g, e, hg.1, fun i p hi => ?_⟩
    unfold ptsOf at hi
    rw [List.getElem?_map] at hi
    cases hq : ks[i]? with
    | none => rw [hq] at hi; cases hi
    | some q =>
      rw [hq] at hi
      injection hi with hi
      subst hi
      exact hc i q hq
  · obtain ⟨q, hq, rfl⟩ := List.mem_map.1 hp
    exact ⟨(h2 q hq).lt, (h2 q hq).size, (h2 q hq).deep⟩
theorem KidsAt.keep {w w' : World} {P Q : Nat → Prop} (hw : w.heap.size ≤ w'.heap.size) (hk : ∀ x, P x → x < w.heap.size → w'.heap[x]? = w.heap[x]?) (hQ : ∀ x, P x → x < w.heap.size → Q x) {v : Value} {ks : List (Nat × Lm)} (h : KidsAt w P v ks) : KidsAt w' Q v ks := by
  obtain ⟨o, cap, rfl, h1, h2⟩ := h
  refine ⟨o, cap, rfl, fun hn => ?_, fun p hp => TrIn.keep hw hk hQ (h2 p hp)⟩
  obtain ⟨g, e, hg, hc⟩ := h1 hn
  exact ⟨g, e, ⟨Nat.lt_of_lt_of_le hg.1 hw, hQ _ hg.2 hg.1⟩, fun i p hi => by rw [World.cell?_of_block (w := w) (a := ⟨g, i, none⟩) (hk _ hg.2 hg.1)]; exact hc i p hi⟩
theorem KidsAt.below {w w' : World} {P : Nat → Prop} {v : Value} {ks : List (Nat × Lm)} (h : KidsAt w P v ks) (hB : Below w.heap.size w w') : KidsAt w' P v ks := h.keep hB.size (fun x _ hx => hB.block x hx) (fun _ h _ => h)
/-- A new tree of a node and its parts. -/
def nodeOf (k n : Int) : List Lm → Option Lm
  | [] => if k = 1 then some (.var (.v n)) else if k = 3 ∧ n = 0 then some (.var .s) else if k = 4 ∧ n = 0 then some (.var .k) else if k = 5 ∧ n = 0 then some (.var .i) else none
  | [s, t] => if k = 2 ∧ n = 0 then some (.app s t) else none
  | _ => none
theorem nodeOf_nil {k n : Int} {t : Lm} (h : nodeOf k n [] = some t) : ∃ c : Leaf, t = .var c ∧ k = c.kd ∧ n = c.nm := by
  simp only [nodeOf] at h
  split at h
  · next hk => injection h with h; exact ⟨.v n, h.symm, hk, rfl⟩
  · split at h
    · next hk => injection h with h; exact ⟨.s, h.symm, hk.1, hk.2⟩
    · split at h
      · next hk => injection h with h; exact ⟨.k, h.symm, hk.1, hk.2⟩
      · split at h
        · next hk => injection h with h; exact ⟨.i, h.symm, hk.1, hk.2⟩
        · cases h
theorem nodeOf_leaf {k n : Int} {c : Leaf} (h : leafOf k n = some c) : nodeOf k n [] = some (.var c) := by
  obtain ⟨rfl, rfl, _⟩ := leafOf_some h
  cases c <;> rfl
theorem nodeOf_var (c : Leaf) : nodeOf c.kd c.nm [] = some (.var c) := by cases c <;> rfl
theorem treeNew_at {w w' : World} {P : Nat → Prop} {k n u : Int} {v : Value} {ks : List (Nat × Lm)} {e : Ending} {t : Lm} (hK : KidsAt w P v ks) (ht : nodeOf k n (ks.map Prod.snd) = some t) (h : TreeNew w k n u v (szP (ptsOf ks)) (dpP (ptsOf ks)) e w') :
    ∃ b, e = .returned (.pointer (some ⟨b, 0, none⟩)) ∧ w.heap.size ≤ b ∧ TrIn w' (fun x => P x ∨ w.heap.size ≤ x) t b ∧ Below w.heap.size w w' := by
  obtain ⟨b, rfl, hb, hR, hB⟩ := h
  refine ⟨b, rfl, hb, ?_, hB⟩
  obtain ⟨o, cap, rfl, h1, h2⟩ := hK.keep (Q := fun x => P x ∨ w.heap.size ≤ x) hB.size (fun x _ hx => hB.block x hx) (fun _ h _ => .inl h)
  match ks, ht, hR, h1, h2 with
  | [], ht, hR, h1, h2 =>
    obtain ⟨c, rfl, rfl, rfl⟩ := nodeOf_nil ht
    exact ⟨.inr hb, u, o, cap, hR⟩
  | [(b1, t1)], ht, hR, h1, h2 => simp [nodeOf] at ht
  | [(b1, t1), (b2, t2)], ht, hR, h1, h2 =>
    simp only [List.map_cons, List.map_nil, nodeOf] at ht
    split at ht
    · next hk =>
      injection ht with ht
      subst ht
      obtain ⟨rfl, rfl⟩ := hk
      obtain ⟨g, rfl, hg, hc⟩ := h1 (by simp)
      refine ⟨.inr hb, u, g, cap, b1, b2, ?_, hg, hc 0 _ rfl, hc 1 _ rfl, h2 (b1, t1) (by simp), h2 (b2, t2) (by simp)⟩
      have e1 : szP (ptsOf [(b1, t1), (b2, t2)]) = t1.sz + t2.sz + 1 := by simp [szP, ptsOf]; omega
      have e2 : dpP (ptsOf [(b1, t1), (b2, t2)]) = max t1.dp t2.dp + 1 := by simp [dpP, ptsOf]
      rw [e1, e2] at hR
      exact hR
    · cases ht
  | _ :: _ :: _ :: _, ht, _, _, _ => simp [nodeOf] at ht

theorem info_ptree : (Tryd.prog.info? 75).map (fun i => (i.zero, i.size, i.bytes)) = some (some (.pointer none), 1, 8) := by kernel_rfl
theorem one_ptree : (Tryd.prog.info? 75).map (·.size) = some 1 := by kernel_rfl
abbrev ptrL : Option Nat → List Value := fun b => [.pointer (b.map fun b => ⟨b, 0, none⟩)]
theorem ptrL_len (x : Option Nat) : (ptrL x).length = 1 := rfl
theorem make_ptree (n : Nat) (hn : n ≤ 1048576) (w : World) : (Instr.makeSlice 116 (.int .i64 (n : Int)) (.int .i64 (n : Int))).run Tryd.prog w = .ok (.slice (some ⟨w.heap.size, 0, none⟩) n n) (w.alloc (.cells ((List.replicate n (none : Option Nat)).flatMap ptrL).toArray 75)) := by
  obtain ⟨i, hi, hzz⟩ := Option.map_eq_some_iff.1 info_ptree
  simp only [Prod.mk.injEq] at hzz
  obtain ⟨hz, hs, hb⟩ := hzz
  have hr := run_make (P := Tryd.prog) w 116 75 i _ Tryd.underlying116 hi hz .i64 .i64 n n (by omega) (Int.le_refl _) (by rw [hb]; omega) (by omega)
  simp only [Int.toNat_natCast, hs] at hr
  rw [hr, ← made_rec ptrL 1 ptrL_len _ (none : Option Nat) (by rfl) n]
  rfl
end Go.Proofs.YtgolfbjfopoeeaaDoor.CB

/-
  How the program reads a row of nodes as a tree: treeAt, readTree, GoodTerm.
-/
namespace Go.Proofs.YtgolfbjfopoeeaaDoor.CB
open Go.RowKit
set_option linter.unusedVariables false

/-- The answer of treeAt. -/
def TreeAns' (w : World) (r : Option Lm) (e : Ending) (w' : World) : Prop :=
  match r with
  | none => ∃ p, e = .returned (.tuple #[.pointer p, .bool false])
  | some t => ∃ b, e = .returned (.tuple #[.pointer (some ⟨b, 0, none⟩), .bool true]) ∧ TrIn w' (fun x => w.heap.size ≤ x) t b
/-- What the loop over the parts knows. -/
def KidsP (l : List Nd) (d a : Nat) : List Lm → Nat → Prop
  | [], nx => nx = a + 1
  | [s], nx => treeP l d (a + 1) a = some s ∧ nx = a + 1 + s.sz
  | [s, t], nx => treeP l d (a + 1) a = some s ∧ treeP l d (a + 1 + s.sz) a = some t ∧ nx = a + 1 + s.sz + t.sz
  | _, _ => False
theorem KidsP.step {l : List Nd} {d a nx : Nat} {ts : List Lm} {t : Lm} (h : KidsP l d a ts nx) (hl : ts.length < 2) (ht : treeP l d nx a = some t) : KidsP l d a (ts ++ [t]) (nx + t.sz) := by
  match ts, h, hl with
  | [], h, _ => cases h; exact ⟨ht, rfl⟩
  | [s], h, _ => obtain ⟨h1, rfl⟩ := h; exact ⟨h1, ht, rfl⟩
  | _ :: _ :: _, _, hl => simp at hl; omega
theorem KidsP.bad {l : List Nd} {d a nx : Nat} {ts : List Lm} {up : Int} (h : KidsP l d a ts nx) (hl : (ts.length : Int) < arN (ndAt l a)) (ht : treeP l d nx a = none) : treeP l (d + 1) a up = none := by
  rw [treeP]
  unfold arN at hl
  split
  · rfl
  · split
    · rfl
    · split
      · next c hk => rw [if_pos (by rw [hk]; rfl)] at hl; omega
      · next hk =>
        rw [if_neg (by rw [hk]; simp)] at hl
        split
        · next hk =>
          rw [if_pos hk] at hl
          match ts, h, hl with
          | [], h, _ => cases h; rw [ht]
          | [s], h, _ => obtain ⟨e1, rfl⟩ := h; rw [e1]; simp only; rw [ht]; rfl
          | _ :: _ :: _, _, hl => simp at hl; omega
        · rfl
theorem KidsP.done {l : List Nd} {d a nx : Nat} {ts : List Lm} {up : Int} (h : KidsP l d a ts nx) (hal : a < l.length) (hup : (ndAt l a).u = up) (hl : (ts.length : Int) = arN (ndAt l a)) :
    ∃ t, treeP l (d + 1) a up = some t ∧ nodeOf (ndAt l a).k (ndAt l a).n ts = some t ∧ nx = a + t.sz := by
  rw [treeP, if_neg (by omega), if_neg (by simp [hup])]
  unfold arN at hl
  split
  · next c hk =>
    rw [if_pos (by rw [hk]; rfl)] at hl
    match ts, h, hl with
    | [], h, _ => cases h; exact ⟨_, rfl, nodeOf_leaf hk, rfl⟩
    | _ :: _, _, hl => simp at hl; omega
  · next hk =>
    rw [if_neg (by rw [hk]; simp)] at hl
    split
    · next hk =>
      rw [if_pos hk] at hl
      match ts, h, hl with
      | [], h, hl => simp at hl
      | [s], h, hl => simp at hl
      | [s, t], h, _ => obtain ⟨e1, e2, rfl⟩ := h; rw [e1]; simp only; rw [e2]; exact ⟨_, rfl, by simp [nodeOf, hk], by simp only [Lm.sz]; omega⟩
      | _ :: _ :: _ :: _, _, hl => simp at hl; omega
    · next h3 => rw [if_neg h3] at hl; omega
theorem treeP_sz {l : List Nd} {d a : Nat} {up : Int} {t : Lm} (h : treeP l d a up = some t) : a + t.sz ≤ l.length ∧ t.dp ≤ d := by
  obtain ⟨pre, post, h1, h2, h3, h4⟩ := treeP_flat l d a up t h
  refine ⟨?_, h4⟩
  rw [h1, List.length_append, List.length_append, Lm.flat_sz, h2]
  omega
theorem KidsP.le {l : List Nd} {d a nx : Nat} {ts : List Lm} (h : KidsP l d a ts nx) (ha : a < l.length) (hl : l.length ≤ 200) : nx ≤ 200 := by
  match ts, h with
  | [], h => cases h; omega
  | [s], h => obtain ⟨h1, rfl⟩ := h; have := (treeP_sz h1).1; omega
  | [s, t], h => obtain ⟨h1, h2, rfl⟩ := h; have := (treeP_sz h2).1; omega
theorem KidsP.small {l : List Nd} {d a nx : Nat} {ks : List (Nat × Lm)} (h : KidsP l d a (ks.map Prod.snd) nx) (hl : l.length ≤ 200) (hd : d ≤ 60) : ∀ p ∈ ptsOf ks, p.2.1 ≤ 1000000 ∧ p.2.2 ≤ 1000000 := by
  intro p hp
  obtain ⟨q, hq, rfl⟩ := List.mem_map.1 hp
  have key : ∀ t ∈ ks.map Prod.snd, t.sz ≤ 200 ∧ t.dp ≤ 60 := by
    generalize ks.map Prod.snd = ts at h
    match ts, h with
    | [], h => simp
    | [s], h => obtain ⟨h1, _⟩ := h; have := treeP_sz h1; simp; omega
    | [s, t], h => obtain ⟨h1, h2, _⟩ := h; have := treeP_sz h1; have := treeP_sz h2; simp; omega
  have := key q.2 (List.mem_map_of_mem hq)
  simp only; omega
theorem arN_le (d : Nd) : arN d ≤ 2 := by unfold arN; split <;> (try split) <;> omega
theorem treeP_neg {l : List Nd} {d a : Nat} {up : Int} (h : l.length ≤ a ∨ d = 0 ∨ (ndAt l a).u ≠ up ∨ arN (ndAt l a) < 0) : treeP l d a up = none := by
  cases d with
  | zero => rfl
  | succ d =>
    rw [treeP]
    split
    · rfl
    · split
      · rfl
      · next h1 h2 =>
        have h3 : arN (ndAt l a) < 0 := by
          rcases h with h | h | h | h
          · exact absurd h h1
          · cases h
          · exact absurd h h2
          · exact h
        unfold arN at h3
        split
        · next c hk => rw [if_pos (by rw [hk]; rfl)] at h3; omega
        · next hk =>
          rw [if_neg (by rw [hk]; simp)] at h3
          split
          · next hk => rw [if_pos hk] at h3; omega
          · rfl

set_option maxHeartbeats 8000000 in
set_option maxRecDepth 100000 in
theorem treeAt_any (l : List Nd) (hl : l.length ≤ 200) : ∀ (d a : Nat) (up : Int) (v : Value) (w : World), d ≤ 60 → a ≤ 300 → NdIn w v l →
    Calls Tryd.prog 64 #[v, .int .i64 (a : Int), .int .i64 up, .int .i64 (d : Int)] w fun e w' => TreeAns' w (treeP l d a up) e w' ∧ Below w.heap.size w w' := by
  intro d
  induction d with
  | zero =>
    intro a up v w hd ha hv
    obtain ⟨o, cap, rfl⟩ := hv.len
    clear hv
    rw [treeP_neg (.inr (.inl rfl))]
    by_cases h : (a : Int) < (l.length : Int)
    · go_enter Tryd.func64, Tryd.ntmps64
      go_wp2
      go_ret2
      exact ⟨⟨_, rfl⟩, Below.refl _ _⟩
    · go_enter Tryd.func64, Tryd.ntmps64
      go_wp2
      go_ret2
      exact ⟨⟨_, rfl⟩, Below.refl _ _⟩
  | succ d IH =>
    intro a up v w hd ha hv
    have HV := hideT' hv
    have HIH := hideT' IH
    clear IH
    obtain ⟨o, cap, rfl⟩ := hv.len
    by_cases h : (a : Int) < (l.length : Int)
    · obtain ⟨nd, hnd⟩ : ∃ nd, nd = ndAt l a := ⟨_, rfl⟩
      obtain ⟨g, rfl, hg, c0, c1, c2⟩ := hv.cells (by omega) hnd
      have HN := hideT' hnd
      clear hnd hv
      obtain ⟨k, n, u⟩ := nd
      simp only at c0 c1 c2
      by_cases hu : u = up
      · subst hu
        obtain ⟨r, hr⟩ : ∃ r, r = arN ⟨k, n, u⟩ := ⟨_, rfl⟩
        have HAR : Hid (∀ w, Calls Tryd.prog 148 #[.agg #[.int .i64 k, .int .i64 n, .int .i64 u]] w fun e w' => e = .returned (.int .i64 r) ∧ w' = w.alloc (.cells #[.int .i64 k, .int .i64 n, .int .i64 u] 72)) := by
          unfold Hid; rw [hr]; exact arity_any k n u
        by_cases hneg : r < 0
        · rw [treeP_neg (.inr (.inr (.inr (by rw [← HN.out, ← hr]; exact hneg))))]
          clear hr
          go_enter Tryd.func64, Tryd.ntmps64
          go_wp2_with fail
          refine (above_any k n u _).mono ?_
          rintro e w1 ⟨rfl, rfl⟩
          go_wp2_with fail
          refine (HAR.out _).mono ?_
          rintro e w2 ⟨rfl, rfl⟩
          go_wp2
          go_ret2
          exact ⟨⟨_, rfl⟩, ((Below.refl _ _).alloc (Nat.le_refl _) _).alloc (by simp) _⟩
        · obtain ⟨m, rfl⟩ : ∃ m : Nat, r = (m : Int) := ⟨r.toNat, by omega⟩
          have hm2 : m ≤ 2 := by have := arN_le ⟨k, n, u⟩; rw [← hr] at this; omega
          have HRR := hideT' hr
          clear hr
          have hmk := make_ptree m (by omega)
          obtain ⟨A1, hA1⟩ : ∃ A1, A1 = ((w.alloc (.cells #[.int .i64 k, .int .i64 n, .int .i64 u] 72)).alloc (.cells #[.int .i64 k, .int .i64 n, .int .i64 u] 72)).alloc (.cells #[.int .i64 k, .int .i64 n, .int .i64 u] 72) := ⟨_, rfl⟩
          have hB1 : Below w.heap.size w A1 := by rw [hA1]; exact (((Below.refl _ _).alloc (Nat.le_refl _) _).alloc (by simp) _).alloc (by simp; omega) _
          have hS1 : A1.heap.size = w.heap.size + 3 := by rw [hA1]; simp
          have HB1 := hideT' hB1
          have HS1 := hideT' hS1
          clear hB1 hS1
          go_enter Tryd.func64, Tryd.ntmps64
          go_wp2_with fail
          refine (above_any k n u _).mono ?_
          rintro e w1 ⟨rfl, rfl⟩
          go_wp2_with fail
          refine (HAR.out _).mono ?_
          rintro e w2 ⟨rfl, rfl⟩
          go_wp2_with fail
          · exfalso
            rename_i hx
            rcases hx with hx | hx
            · rw [beq_iff_eq] at hx; omega
            · omega
          refine (HAR.out _).mono ?_
          rintro e w3 ⟨rfl, rfl⟩
          rw [← hA1]
          have HNEW : Hid (RecAt (A1.alloc (.cells ((List.replicate m (none : Option Nat)).flatMap ptrL).toArray 75)) A1.heap.size 75 ptrL (List.replicate m none)) := RowAt.new _ _ _
          have HBN : Hid (Below w.heap.size w (A1.alloc (.cells ((List.replicate m (none : Option Nat)).flatMap ptrL).toArray 75))) := HB1.out.alloc (by have := HS1.out; omega) _
          clear hA1
          go_wp2_with fail
          clear hmk
          obtain ⟨G, hG⟩ : ∃ G, G = A1.heap.size := ⟨_, rfl⟩
          rw [← hG]
          have HG := hideT' hG
          clear hG
          go_loopg [11, 53] m (fun q x i wr => ∃ (ks : List (Nat × Lm)) (nx : Nat), q = m - ks.length ∧ ks.length ≤ m ∧ x = .int .i64 (nx : Int) ∧ i = .int .i64 (ks.length : Int) ∧ KidsP l d a (ks.map Prod.snd) nx ∧ RecAt wr G 75 ptrL (ks.map (fun p => some p.1) ++ List.replicate (m - ks.length) none) ∧ (∀ p ∈ ks, TrIn wr (fun x => G < x) p.2 p.1) ∧ Below w.heap.size w wr)
          case atStart => exact ⟨[], a + 1, rfl, Nat.zero_le _, by go_num, rfl, rfl, by rw [HG.out]; simpa using HNEW.out, (by simp), HBN.out⟩
          case round =>
            obtain ⟨ks, nx, hq, hks, rfl, rfl, hkp, hR, hT, hB⟩ := hrel
            obtain ⟨j, hj⟩ : ∃ j, j = ks.length := ⟨_, rfl⟩
            rw [← hj] at hq hks hR ⊢
            have HJ := hideT' hj
            have hsz := hB.size
            have HKP := hideT' hkp
            have HT := hideT' hT
            have HB := hideT' hB
            have HGS : Hid (w.heap.size ≤ G) := by unfold Hid; have := HG.out; have := HS1.out; omega
            clear hkp hT hj hB
            by_cases hlt : (j : Int) < (m : Int)
            · have hnx : nx ≤ 200 := HKP.out.le (by omega) hl
              have HGW : Hid (G < wr.heap.size) := hR.lt
              have HR := hideT' hR
              clear hR
              go_wp2_with fail
              refine (HIH.out nx (a : Int) _ _ (by omega) (by omega) (HV.out.below HB.out)).mono ?_
              rintro e w2 ⟨hans, hB2⟩
              cases hres : treeP l d nx a with
              | none =>
                rw [hres] at hans
                obtain ⟨p, rfl⟩ := hans
                have HE : Hid (treeP l (d + 1) a u = none) := KidsP.bad HKP.out (by rw [List.length_map, ← HJ.out, ← HN.out, ← HRR.out]; exact hlt) hres
                have HB2 : Hid (Below w.heap.size w w2) := HB.out.trans (hB2.mono HB.out.size)
                clear hres hB2
                go_wp2
                go_ret2
                exact ⟨by rw [HE.out]; exact ⟨_, rfl⟩, HB2.out⟩
              | some t =>
                rw [hres] at hans
                obtain ⟨b, rfl, hb⟩ := hans
                have HK2 : Hid (KidsP l d a ((ks ++ [(b, t)]).map Prod.snd) (nx + t.sz)) := by
                  unfold Hid; rw [List.map_append]; exact HKP.out.step (by rw [List.length_map, ← HJ.out]; omega) hres
                have hts := (treeP_sz hres).1
                have HB2 : Hid (Below wr.heap.size wr w2) := hB2
                have hR2 : RecAt w2 G 75 ptrL (ks.map (fun p => some p.1) ++ List.replicate (m - j) none) := HR.out.below hB2 HGW.out
                have HTB : Hid (TrIn w2 (fun x => wr.heap.size ≤ x) t b) := hb
                clear hres hB2 hb
                go_wp2_with (refine store_rec1 rfl 75 _ _ rfl rfl (fun b : Option Nat => .pointer (b.map fun b => ⟨b, 0, none⟩)) (fun _ => rfl) one_ptree G j (some b) rfl rfl _ hR2 (by rw [List.length_append, List.length_map, List.length_replicate, ← HJ.out]; omega) ?_; intro w3 hR3 hg3 hs3; have hc4 : w3.cell? ⟨b, 4, none⟩ = some (.int .i64 (t.sz : Int)) := (TrIn.grown hg3 (by have := HGW.out; omega) HTB.out).size; have HG3 := hideT' hg3; have HR3 := hideT' hR3; clear hg3 hR3)
                go_roundg (m - (j + 1))
                case measure => omega
                case rel =>
                  refine ⟨ks ++ [(b, t)], nx + t.sz, by rw [List.length_append, ← HJ.out]; rfl, by rw [List.length_append, ← HJ.out, List.length_singleton]; omega, by go_num, by rw [List.length_append, ← HJ.out, List.length_singleton]; go_num, HK2.out, ?_, ?_, ?_⟩
                  · have e1 : (ks.map (fun p : Nat × Lm => some p.1) ++ List.replicate (m - j) none).set j (some b) = (ks ++ [(b, t)]).map (fun p : Nat × Lm => some p.1) ++ List.replicate (m - (ks ++ [(b, t)]).length) none := by
                      rw [List.set_append_right _ _ (by rw [List.length_map, ← HJ.out]; exact Nat.le_refl _), List.length_map, ← HJ.out, Nat.sub_self, List.length_append, ← HJ.out, List.length_singleton]
                      obtain ⟨z, hz⟩ : ∃ z, m - j = z + 1 := ⟨m - j - 1, by omega⟩
                      rw [hz, show m - (j + 1) = z by omega, List.replicate_succ, List.set_cons_zero, List.map_append]
                      simp
                    have h3 := HR3.out
                    rw [e1] at h3
                    exact h3
                  · intro p hp
                    rcases List.mem_append.1 hp with hp | hp
                    · exact TrIn.grown HG3.out (by omega) (TrIn.below HB2.out (HT.out p hp))
                    · rw [List.mem_singleton] at hp
                      subst hp
                      exact TrIn.grown HG3.out (by omega) (TrIn.mono (fun x hx _ => Nat.lt_of_lt_of_le HGW.out hx) HTB.out)
                  · exact (HB.out.trans (HB2.out.mono HB.out.size)).grown HG3.out (by have := HB.out.size; have := HB2.out.size; omega) (by intro k hk; cases hk; exact HGS.out)
            · have hjm : j = m := by omega
              obtain ⟨t, ht1, ht2, ht3⟩ := KidsP.done (up := u) HKP.out (by omega) (by rw [← HN.out]) (by rw [List.length_map, ← HJ.out, ← HN.out, ← HRR.out, hjm])
              have HKids : Hid (KidsAt wr (fun x => G ≤ x) (.slice (some ⟨G, 0, none⟩) m m) ks) := by
                refine ⟨_, m, by rw [← HJ.out, hjm], fun hn => ⟨G, rfl, ⟨hR.lt, Nat.le_refl _⟩, fun i p hi => ?_⟩, fun p hp => TrIn.mono (fun x hx _ => Nat.le_of_lt hx) (HT.out p hp)⟩
                have hil : i < ks.length := (List.getElem?_eq_some_iff.1 hi).1
                have := hR.cell (c := 1) ptrL_len i 0 (by rw [List.length_append, List.length_map]; omega) (by decide)
                rw [Nat.mul_one, Nat.add_zero] at this
                rw [this]
                have e : (ks.map (fun p : Nat × Lm => some p.1) ++ List.replicate (m - j) none).getD i default = some p.1 := by
                  rw [List.getD, List.getElem?_append_left (by rw [List.length_map]; exact hil), List.getElem?_map, hi]
                  rfl
                rw [e]; rfl
              have HTN : Hid (nodeOf k n (ks.map Prod.snd) = some t) := by
                unfold Hid; rw [← ht2, ← HN.out]
              have HTP := hideT' ht1
              have htl := treeP_sz ht1
              have HPS : Hid (∀ p ∈ ptsOf ks, p.2.1 ≤ 1000000 ∧ p.2.2 ≤ 1000000) := KidsP.small HKP.out hl (by omega)
              have hcc := HB.out
              have e0 : wr.cell? ⟨g, a * 3, none⟩ = some (.int .i64 k) := by rw [hcc.cell (p := ⟨g, a * 3, none⟩) hg]; exact c0
              have e1 : wr.cell? ⟨g, a * 3 + 1, none⟩ = some (.int .i64 n) := by rw [hcc.cell (p := ⟨g, a * 3 + 1, none⟩) hg]; exact c1
              have e2 : wr.cell? ⟨g, a * 3 + 2, none⟩ = some (.int .i64 u) := by rw [hcc.cell (p := ⟨g, a * 3 + 2, none⟩) hg]; exact c2
              clear hcc ht1 ht2 ht3 c0 c1 c2 hR
              go_wp2_with fail
              refine (treeOf_any k n u _ (ptsOf ks) wr HKids.out.pts (by unfold ptsOf; rw [List.length_map, ← HJ.out]; omega) HPS.out).mono ?_
              intro e w2 hN
              obtain ⟨b, rfl, hbb, hTr, hB2⟩ := treeNew_at HKids.out HTN.out hN
              have HF : Hid (TrIn w2 (fun x => w.heap.size ≤ x) t b ∧ Below w.heap.size w w2) := ⟨TrIn.mono (fun x hx _ => by have := HGS.out; have := HB.out.size; rcases hx with hx | hx <;> omega) hTr, HB.out.trans (hB2.mono HB.out.size)⟩
              clear hN hTr hB2
              go_wp2
              go_ret2
              exact ⟨by rw [HTP.out]; exact ⟨b, rfl, HF.out.1⟩, HF.out.2⟩
      · rw [treeP_neg (.inr (.inr (.inl (by rw [← HN.out]; exact hu))))]
        go_enter Tryd.func64, Tryd.ntmps64
        go_wp2_with fail
        refine (above_any k n u _).mono ?_
        rintro e w1 ⟨rfl, rfl⟩
        go_wp2
        go_ret2
        exact ⟨⟨_, rfl⟩, (Below.refl _ _).alloc (Nat.le_refl _) _⟩
    · rw [treeP_neg (.inl (by omega))]
      clear hv
      go_enter Tryd.func64, Tryd.ntmps64
      go_wp2
      go_ret2
      exact ⟨⟨_, rfl⟩, Below.refl _ _⟩
end Go.Proofs.YtgolfbjfopoeeaaDoor.CB

/-
  What readTree and GoodTerm of the program answer.
-/
namespace Go.Proofs.YtgolfbjfopoeeaaDoor.CB
open Go.RowKit
set_option linter.unusedVariables false

theorem TrIn.drN {w : World} {P : Nat → Prop} {t : Lm} {b : Nat} (h : TrIn w P t b) (k : Nat) : TrIn (w.drewN k) P t b := TrIn.keep (w := w) (w' := w.drewN k) (Nat.le_refl _) (fun _ _ _ => rfl) (fun _ h _ => h) h
theorem below_drN {N : Nat} {w w' : World} (h : Below N w w') (k : Nat) : Below N w (w'.drewN k) := ⟨h.os, h.tape, h.output, h.size, h.block⟩
/-- The answer of readTree. -/
def readTAns (w : World) (l : List Nd) (e : Ending) (w' : World) : Prop :=
  (∃ p, e = .returned (.tuple #[.pointer p, .bool false]) ∧ readP' l = none) ∨ ∃ t b, e = .returned (.tuple #[.pointer (some ⟨b, 0, none⟩), .bool true]) ∧ readP' l = some t ∧ TrIn w' (fun x => w.heap.size ≤ x) t b

set_option maxHeartbeats 4000000 in
set_option maxRecDepth 100000 in
theorem readTree_any (l : List Nd) (v : Value) (w : World) (hv : NdIn w v l) (hl0 : l.length ≤ 1048576) :
    Calls Tryd.prog 40 #[v] w fun e w' => readTAns w l e w' ∧ Below w.heap.size w w' := by
  have HV := hideT' hv
  obtain ⟨o, cap, rfl⟩ := hv.len
  clear hv
  have hz := zero_comb.1
  by_cases hl : (200 : Int) < (l.length : Int)
  · have HP : Hid (readP' l = none) := by unfold Hid readP'; rw [if_pos (by omega)]
    go_enter Tryd.func40, Tryd.ntmps40
    go_wp2_with fail
    refine (limits_any 0 0 0 _).mono ?_
    rintro e w1 ⟨rfl, rfl⟩
    go_wp2
    go_ret2
    exact ⟨.inl ⟨_, rfl, HP.out⟩, ((Below.refl _ _).alloc (Nat.le_refl _) _).alloc (by simp) _⟩
  · have hl1 : l.length ≤ 200 := by omega
    have hB1 : Below w.heap.size w ((w.alloc (.cells #[.int .i64 0, .int .i64 0, .int .i64 0] 72)).alloc (.cells #[.int .i64 0, .int .i64 0, .int .i64 0] 72)) := ((Below.refl _ _).alloc (Nat.le_refl _) _).alloc (by simp) _
    have HB1 := hideT' hB1
    have HC := hideT' (treeAt_any l hl1 60 0 (-1) _ _ (by omega) (by omega) (HV.out.below hB1))
    clear hB1
    go_enter Tryd.func40, Tryd.ntmps40
    go_wp2_with fail
    refine (limits_any 0 0 0 _).mono ?_
    rintro e w1 ⟨rfl, rfl⟩
    go_wp2_with fail
    refine HC.out.mono ?_
    rintro e w2 ⟨hans, hB2⟩
    have HB2 : Hid (Below w.heap.size w w2) := HB1.out.trans (hB2.mono (by simp; omega))
    cases hres : treeP l 60 0 (-1) with
    | none =>
      have HP : Hid (readP' l = none) := by unfold Hid readP'; rw [if_neg (by omega), hres]
      rw [hres] at hans
      obtain ⟨p, rfl⟩ := hans
      clear hres hB2
      go_wp2_with fail
      go_quiet (fail)
      go_wp2
      go_ret2
      exact ⟨.inl ⟨_, rfl, HP.out⟩, below_drN HB2.out _⟩
    | some t =>
      rw [hres] at hans
      obtain ⟨b, rfl, hb⟩ := hans
      have hsz := hb.size
      have HT : Hid (TrIn w2 (fun x => w.heap.size ≤ x) t b) := TrIn.mono (fun x hx _ => by simp at hx; omega) hb
      have HP : Hid (readP' l = if t.sz = l.length then some t else none) := by unfold Hid readP'; rw [if_neg (by omega), hres]
      clear hres hB2 hb
      by_cases hs : (t.sz : Int) = (l.length : Int)
      · have HP2 : Hid (readP' l = some t) := by unfold Hid; rw [HP.out, if_pos (by omega)]
        have hsb : ((t.sz : Int) == (l.length : Int)) = true := by simp only [beq_iff_eq]; omega
        go_wp2_with fail
        go_quiet (fail)
        go_wp2
        go_ret2
        exact ⟨.inr ⟨t, b, by first | rfl | (show Ending.returned (.tuple #[_, .bool ((t.sz : Int) == (l.length : Int))]) = _; rw [hsb]), HP2.out, HT.out.drN _⟩, below_drN HB2.out _⟩
      · have HP2 : Hid (readP' l = none) := by unfold Hid; rw [HP.out, if_neg (by omega)]
        have hsb : ((t.sz : Int) == (l.length : Int)) = false := by simp only [beq_eq_false_iff_ne]; omega
        go_wp2_with fail
        go_quiet (fail)
        go_wp2
        go_ret2
        exact ⟨.inl ⟨some ⟨b, 0, none⟩, by first | rfl | (show Ending.returned (.tuple #[_, .bool ((t.sz : Int) == (l.length : Int))]) = _; rw [hsb]; rfl), HP2.out⟩, below_drN HB2.out _⟩
end Go.Proofs.YtgolfbjfopoeeaaDoor.CB

/-
  The walk through a tree, as an iterator with memory of its own.
-/
namespace Go.Proofs.YtgolfbjfopoeeaaDoor.CB
open Go.RowKit Go.Shelf BL
set_option linter.unusedVariables false
attribute [local go_sem] Oper.semAt_some

theorem TrIn.turn.row_same {w w' : World} {b : Nat} {T : TypeId} {cs : Array Value} {row : Option Nat} (h : RowAt w b T cs) (hg : w.grownBy w' row) (hr : ∀ r, row = some r → ∃ o : Obj, w.heap[r]? = some o ∧ o.isCells = false) : RowAt w' b T cs := by
  unfold RowAt
  rw [hg.block b h.lt (fun e => by
    obtain ⟨o, ho, hc⟩ := hr b e.symm
    rw [h] at ho
    cases ho
    cases hc)]
  exact h
theorem TrIn.turn {w w' : World} {P : Nat → Prop} {row : Option Nat} (hg : w.grownBy w' row) (hr : ∀ r, row = some r → ∃ o : Obj, w.heap[r]? = some o ∧ o.isCells = false) : ∀ {t : Lm} {b : Nat}, TrIn w P t b → TrIn w' P t b
  | .var n, b, h => by
    obtain ⟨hp, u, o, c, h⟩ := h
    exact ⟨hp, u, o, c, TrIn.turn.row_same h hg hr⟩
  | .app s t, b, h => by
    obtain ⟨hp, u, g, c, b1, b2, h, hg', hc, hc2, h1, h2⟩ := h
    exact ⟨hp, u, g, c, b1, b2, TrIn.turn.row_same h hg hr, ⟨Nat.lt_of_lt_of_le hg'.1 hg.size, hg'.2⟩, cell_kept hc hg hr, cell_kept hc2 hg hr, TrIn.turn hg hr h1, TrIn.turn hg hr h2⟩
/-- What the walk gives. -/
def encS (x : Spot × Nat) : Array Value := #[.agg #[.int .i64 (x.1.at_ : Int), .int .i64 x.1.up, .int .i64 (x.1.lam : Int)], .pointer (some ⟨x.2, 0, none⟩)]
/-- How many lambdas a node puts around its parts. -/
def Lm.lams (_ : Lm) : Nat := 0
theorem zero_spot : (∀ w, (zeroValue 112).run Tryd.prog w = .ok (.agg #[.int .i64 0, .int .i64 0, .int .i64 0]) w) ∧ (Tryd.prog.info? 112).map (·.size) = some 3 := zero_of_info (by kernel_rfl)

/-- The parts of a tree, as the cells say. -/
def Lm.kids : Lm → List Lm
  | .var _ => []
  | .app s t => [s, t]
theorem TrIn.parts {w : World} {P : Nat → Prop} {t : Lm} {b : Nat} (h : TrIn w P t b) : ∃ o c, w.cell? ⟨b, 3, none⟩ = some (.slice o t.kids.length c) ∧ ∀ i s, t.kids[i]? = some s → ∃ g b1, o = some ⟨g, 0, none⟩ ∧ g < w.heap.size ∧ P g ∧ w.cell? ⟨g, i, none⟩ = some (.pointer (some ⟨b1, 0, none⟩)) ∧ TrIn w P s b1 := by
  cases t with
  | var n =>
    obtain ⟨_, u, o, c, h⟩ := h
    exact ⟨o, c, by rw [cell_of_row _ _ _ _ _ _ h]; rfl, fun i s hi => by simp [Lm.kids] at hi⟩
  | app s t =>
    obtain ⟨_, u, g, c, b1, b2, h, hg, hc, hc2, h1, h2⟩ := h
    refine ⟨_, c, by rw [cell_of_row _ _ _ _ _ _ h]; rfl, fun i s hi => ?_⟩
    match i, hi with
    | 0, hi => cases hi; exact ⟨g, b1, rfl, hg.1, hg.2, hc, h1⟩
    | 1, hi => cases hi; exact ⟨g, b2, rfl, hg.1, hg.2, hc2, h2⟩
    | i + 2, hi => simp [Lm.kids] at hi

set_option maxHeartbeats 1000000 in
theorem lambdasOf_any (t : Lm) (b : Nat) (P : Nat → Prop) (w : World) (h : TrIn w P t b) :
    Calls Tryd.prog 94 #[.pointer (some ⟨b, 0, none⟩)] w fun e w' => e = .returned (.int .i64 (t.lams : Int)) ∧ w' = w := by
  obtain ⟨o, c, hc, _⟩ := h.parts
  clear h
  cases t with
  | var n =>
    simp only [Lm.kids, List.length_nil] at hc
    go_enter Tryd.func94, Tryd.ntmps94
    go_wp2
    go_ret
    exact ⟨rfl, rfl⟩
  | app s t =>
    simp only [Lm.kids, List.length_cons, List.length_nil] at hc
    go_enter Tryd.func94, Tryd.ntmps94
    go_wp2
    go_ret
    exact ⟨rfl, rfl⟩
end Go.Proofs.YtgolfbjfopoeeaaDoor.CB

/-
  The walk through a tree: walkFrom, and the iterator that walk gives.
-/
namespace Go.Proofs.YtgolfbjfopoeeaaDoor.CB
open Go.RowKit Go.Shelf BL
set_option linter.unusedVariables false
attribute [local go_sem] Oper.semAt_some

theorem held_one {ops : Array Oper} {Q : Exit → Act → World → Prop} {md : Region.Mode} {S : World → Prop} {o : Oper} {fuel : Nat} {listed : Array Bool} {a : Act} {w : World} (i : Nat) (hr : Region.ready md ops listed = [i]) (hi : ops[i]? = some o) (hw : Region.wanted o (yielded ops a.tmps) = true)
    (h : ∀ K : Act → World → Prop, Hid (∀ a w', S w' → wpAnyH Tryd.prog md ops Q S fuel (listed.setIfInBounds i true) a w' → K a w') → o.wp Tryd.prog a w K Q) : wpAnyH Tryd.prog md ops Q S (fuel + 1) listed a w := by
  refine wpAnyH_ready hr (by simp) (AllReadyH.cons hi (fun K hK => ?_) AllReadyH.nil)
  rw [if_pos hw]
  exact h K (fun a w' hS h => hK.out _ _ hS (fun _ => h))
/-- Three cells are written whole. -/
theorem store_3_wp {o : Oper} {a : Act} {w : World} {K : Act → World → Prop} {Q : Exit → Act → World → Prop} (T : TypeId) (x y : Operand) (ho : o.op = .store T x y) (hd : o.dst = none) (hs3 : (Tryd.prog.info? T).map (·.size) = some 3)
    (b : Nat) (cs : Array Value) (h3 : cs.size = 3) (hone : cs.all (·.oneCell') = true) (hx : a.eval x = .pointer (some ⟨b, 0, none⟩)) (hy : a.eval y = .agg cs) (c0 : Array Value) (h0 : c0.size = 3) (hN : RowAt w b T c0)
    (h : ∀ w', RowAt w' b T cs → w.grownBy w' (some b) → w'.heap.size = w.heap.size → K a w') : o.wp Tryd.prog a w K Q := by
  refine wp_store_row T x y ho b cs hx hy T c0 hN (by rw [hs3, h3]) (by rw [h0, h3]) hone ?_
  rw [hd]
  exact h _ (setRow_heap w b _ _ _ _ hN) ⟨rfl, rfl, rfl, by simp, fun k _ hne => setRow_other w b k _ (by intro e; exact hne (by rw [e]))⟩ (by simp)

/-- The walks of parts, one behind the other. -/
def kidsW : List Lm → Nat → Nat → Nat → List Spot
  | [], _, _, _ => []
  | s :: ss, p, a, m => s.walk p (a : Int) m ++ kidsW ss (p + s.sz) a m
def szsL : List Lm → Nat
  | [] => 0
  | s :: ss => s.sz + szsL ss
theorem szsL_app (A B : List Lm) : szsL (A ++ B) = szsL A + szsL B := by
  induction A with
  | nil => simp [szsL]
  | cons s ss ih => simp only [List.cons_append, szsL, ih]; omega
theorem kidsW_app (A B : List Lm) : ∀ (p a m : Nat), kidsW (A ++ B) p a m = kidsW A p a m ++ kidsW B (p + szsL A) a m := by
  induction A with
  | nil => intro p a m; simp [kidsW, szsL]
  | cons s ss ih => intro p a m; simp only [List.cons_append, kidsW, szsL, ih, List.append_assoc]; rw [show p + s.sz + szsL ss = p + (s.sz + szsL ss) by omega]
theorem Lm.walk_kids (t : Lm) (a : Nat) (up : Int) (m : Nat) : t.walk a up m = ⟨a, up, m, t⟩ :: kidsW t.kids (a + 1) a (m + t.lams) := by
  cases t <;> simp [Lm.walk, Lm.kids, Lm.lams, kidsW]
theorem Lm.sz_kids (t : Lm) : t.sz = szsL t.kids + 1 := by
  cases t <;> simp [Lm.sz, Lm.kids, szsL]
theorem Lm.kids_lt {t s : Lm} (h : s ∈ t.kids) : s.sz < t.sz := by
  cases t with
  | var n => simp [Lm.kids] at h
  | app p q => simp [Lm.kids] at h; rcases h with rfl | rfl <;> simp [Lm.sz] <;> omega

theorem ints3_one (x y z : Int) : (#[Value.int .i64 x, .int .i64 y, .int .i64 z].all (·.oneCell')) = true := Array.all_eq_true_iff_forall_mem.2 (by intro v hv; simp at hv; rcases hv with rfl | rfl | rfl <;> rfl)
def idxV (v : Value) : Nat := match v with | .int _ y => y.toNat | _ => 0
def WalkOut (J : List (Spot × Nat) → (Nat → Prop) → World → Prop) (U : Nat → Prop) (W : World) (pre : List (Spot × Nat)) (r : List Spot) (W' : World) : Prop :=
  ∃ ys U', ys.map Prod.fst = r ∧ J (pre ++ ys) U' W' ∧ MoreB U U' W ∧ KeepsB U W W'
theorem TrIn.inP {w : World} {P : Nat → Prop} {t : Lm} {b : Nat} (h : TrIn w P t b) : P b := by
  cases t with
  | var n => exact h.1
  | app s t => exact h.1
/-- What walkFrom does. -/
def WalkC (N : Nat) : Prop := ∀ (t : Lm), t.sz ≤ N → ∀ (b a : Nat) (up : Int) (m l N0 : Nat) (J : List (Spot × Nat) → (Nat → Prop) → World → Prop) (JF : World → Prop) (W : World) (U : Nat → Prop) (pre : List (Spot × Nat)) (xs post : List Spot),
    (∀ s V A, J s V A → ∀ b, V b → b < A.heap.size) →
    N0 ≤ W.heap.size → (∀ s V A B row, J s V A → A.grownBy B row → (∀ r, row = some r → ¬ V r ∧ N0 ≤ r) → J s V B) →
    (∀ pre x V W1, J pre V W1 → ((∃ post, xs = pre.map Prod.fst ++ x.1 :: post) ∧ TrIn W1 (fun z => ¬ V z) x.1.t x.2) → YieldAt Fence.wide 2 Tryd.prog l (encS x) W1 fun e W' => (e = .returned (.bool true) ∧ ∃ V', J (pre ++ [x]) V' W' ∧ MoreB V V' W1 ∧ KeepsB V W1 W') ∨ (e = .returned (.bool false) ∧ JF W')) →
    TrIn W (fun z => ¬ U z) t b → J pre U W → xs = pre.map Prod.fst ++ t.walk a up m ++ post → a + t.sz ≤ 1000000 → m + t.sz ≤ 1000000 →
    CallsIn Fence.wide 3 Tryd.prog 83 #[.pointer (some ⟨b, 0, none⟩), .agg #[.int .i64 (a : Int), .int .i64 up, .int .i64 (m : Int)], .func (.yield l) #[] #[]] W fun e W' =>
      (e = .returned (.bool true) ∧ WalkOut J U W pre (t.walk a up m) W') ∨ (e = .returned (.bool false) ∧ JF W')

set_option maxRecDepth 100000 in
set_option maxHeartbeats 8000000 in
theorem walkFrom_step (N : Nat) (IH : ∀ n, n < N → WalkC n) : WalkC N := by
  intro t ht b a up m l N0 J JF W U pre xs post hlt hN0 hst hY hT hJ hxs ha hm
  have HIH := hideT' IH
  have HLT := hideT' hlt
  have HST := hideT' hst
  have HY := hideT' hY
  have HX := hideT' hxs
  have HTN := hideT' ht
  obtain ⟨h0, hh0⟩ : ∃ h0, h0 = W.heap.size := ⟨_, rfl⟩
  obtain ⟨W1, hW1⟩ : ∃ W1, W1 = W.alloc (.cells #[.int .i64 (a : Int), .int .i64 up, .int .i64 (m : Int)] 112) := ⟨_, rfl⟩
  have hB1 : Below W.heap.size W W1 := by rw [hW1]; exact (Below.refl _ _).alloc (Nat.le_refl _) _
  have hR1 : RowAt W1 h0 112 #[.int .i64 (a : Int), .int .i64 up, .int .i64 (m : Int)] := by rw [hW1, hh0]; exact RowAt.new _ _ _
  have hJ1 : J pre U W1 := hst _ _ _ _ none hJ ⟨hB1.os, hB1.tape, hB1.output, hB1.size, fun k hk _ => hB1.block k hk⟩ (fun r e => by cases e)
  have hT1 : TrIn W1 (fun z => ¬ U z) t b := TrIn.below hB1 hT
  have hU0 : ¬ U h0 := fun h => by have := hlt _ _ _ hJ _ h; omega
  have HUW : Hid (∀ z, U z → z < W.heap.size) := fun z hz => hlt _ _ _ hJ z hz
  have HYL := hideT' (hY pre (⟨a, up, m, t⟩, b) U W1 hJ1 ⟨⟨kidsW t.kids (a + 1) a (m + t.lams) ++ post, by rw [hxs, Lm.walk_kids]; simp⟩, hT1⟩)
  have q0 : W1.cell? ⟨h0, 0, none⟩ = some (.int .i64 (a : Int)) := by rw [cell_of_row _ _ _ _ _ _ hR1]; rfl
  have q1 : W1.cell? ⟨h0, 1, none⟩ = some (.int .i64 up) := by rw [cell_of_row _ _ _ _ _ _ hR1]; rfl
  have q2 : W1.cell? ⟨h0, 2, none⟩ = some (.int .i64 (m : Int)) := by rw [cell_of_row _ _ _ _ _ _ hR1]; rfl
  have HR1 := hideT' hR1
  have HB1 := hideT' hB1
  have HT := hideT' hT
  have hz := zero_spot.1
  have HH0 := hideT' hh0
  clear IH hlt hst hY hT hJ hxs ht hB1 hR1 hJ1 hT1
  refine callsIn_of_wp Tryd.func83 rfl trivial ?_ rfl
  simp only [Tryd.ntmps83, List.size_toArray, List.length_cons, List.length_nil, Nat.reduceAdd, Nat.reduceSub, Array.replicate_succ, Array.replicate_zero, List.push_toArray, List.append_toArray, List.nil_append, List.cons_append]
  gi_wp2
  rw [← hW1, ← hh0]
  clear hW1 hh0
  gi_wp2
  obtain ⟨fn, tmps, assign, body, hyl, hR⟩ := HYL.out
  unfold encS at hyl
  simp only at hyl
  rw [hyl]
  gi_wp2
  refine hR.mono ?_
  rintro e W2 hpost
  rcases hpost with ⟨rfl, V, hJ2, hmo, hke⟩ | ⟨rfl, hF⟩
  · have HJ2 := hideT' hJ2
    have HMO := hideT' hmo
    have HKE := hideT' hke
    have hV0 : ¬ V h0 := fun h => by rcases hmo h0 h with h | h; exact hU0 h; have := HR1.out.lt; omega
    have HR2 : Hid (RowAt W2 h0 112 #[.int .i64 (a : Int), .int .i64 up, .int .i64 (m : Int)]) := by unfold Hid RowAt; rw [hke.2 h0 HR1.out.lt hU0]; exact HR1.out
    have HT2 : Hid (TrIn W2 (fun z => ¬ V z ∧ z < W.heap.size) t b) := TrIn.keep (P := fun z => ¬ U z ∧ z < W.heap.size) hke.1 (fun x hx hl => hke.2 x hl hx.1) (fun x hx hl => ⟨fun hv => by rcases hmo x hv with h | h; exact hx.1 h; omega, hx.2⟩) (TrIn.below HB1.out (TrIn.mono (fun z h hl => ⟨h, hl⟩) HT.out))
    have hwa : IntKind.i64.wrap ((a : Int) + 1) = (a : Int) + 1 := by rw [IntKind.wrap_i64]; have := t.sz_pos; omega
    have hla : t.lams ≤ 1 := by cases t <;> simp [Lm.lams]
    have hwm : IntKind.i64.wrap ((m : Int) + (t.lams : Int)) = (m : Int) + (t.lams : Int) := by rw [IntKind.wrap_i64]; have := t.sz_pos; omega
    have HWA := hideT' (And.intro hwa hwm)
    clear hJ2 hmo hke q0 q1 q2
    gi_wp2
    refine wpIn_wide.2 ?_
    have S0 : ∀ w', Below W2.drew.heap.size W2.drew w' → (RowAt w' h0 112 #[.int .i64 (a : Int), .int .i64 up, .int .i64 (m : Int)] ∧ TrIn w' (fun z => ¬ V z) t b) := fun w' hw' => ⟨RowAt.below (w := W2.drew) HR2.out hw' HR2.out.lt, TrIn.below (w := W2.drew) hw' (TrIn.keep (w := W2) (w' := W2.drew) (Nat.le_refl _) (fun _ _ _ => rfl) (fun _ h _ => h.1) HT2.out)⟩
    refine float_begin (fun w' => RowAt w' h0 112 #[.int .i64 (a : Int), .int .i64 up, .int .i64 (m : Int)] ∧ TrIn w' (fun z => ¬ V z) t b) 11 7 112 #[.int .i64 0, .int .i64 0, .int .i64 0] W2.heap.size 12 (by kernel_rfl) rfl ?_
    refine float_val 0 15 rfl rfl (by kernel_rfl) (by kernel_rfl) (by kernel_rfl) (by kernel_rfl) (by kernel_rfl) noPanic_put (fun _ => rfl) (by decide) (by decide) (.pointer (some ⟨h0, 0, none⟩)) (fun _ _ => by go_simp) (fun _ => fun _ _ => by go_simp) (S0) ?_
    simp only [Act.put, List.setIfInBounds_toArray, List.set_cons_zero, List.set_cons_succ]
    refine float_val 1 16 rfl rfl (by kernel_rfl) (by kernel_rfl) (by kernel_rfl) (by kernel_rfl) (by kernel_rfl) noPanic_put (fun _ => rfl) (by decide) (by decide) (.int .i64 (a : Int)) (fun w' h => by have c : w'.cell? ⟨h0, 0, none⟩ = some _ := (by rw [cell_of_row w' _ _ _ _ _ h.1]; rfl); go_simp) (fun _ w' h => by have c : w'.cell? ⟨h0, 0, none⟩ = some _ := (by rw [cell_of_row w' _ _ _ _ _ h.1]; rfl); go_simp) (S0) ?_
    simp only [Act.put, List.setIfInBounds_toArray, List.set_cons_zero, List.set_cons_succ]
    refine float_val 2 17 rfl rfl (by kernel_rfl) (by kernel_rfl) (by kernel_rfl) (by kernel_rfl) (by kernel_rfl) noPanic_put (fun _ => rfl) (by decide) (by decide) (.int .i64 ((a : Int) + 1)) (fun _ _ => by go_simp) (fun _ => fun _ _ => by go_simp) (S0) ?_
    simp only [Act.put, List.setIfInBounds_toArray, List.set_cons_zero, List.set_cons_succ]
    refine float_val 3 18 rfl rfl (by kernel_rfl) (by kernel_rfl) (by kernel_rfl) (by kernel_rfl) (by kernel_rfl) noPanic_put (fun _ => rfl) (by decide) (by decide) (.pointer (some ⟨h0, 0, none⟩)) (fun _ _ => by go_simp) (fun _ => fun _ _ => by go_simp) (S0) ?_
    simp only [Act.put, List.setIfInBounds_toArray, List.set_cons_zero, List.set_cons_succ]
    refine float_val 4 19 rfl rfl (by kernel_rfl) (by kernel_rfl) (by kernel_rfl) (by kernel_rfl) (by kernel_rfl) noPanic_put (fun _ => rfl) (by decide) (by decide) (.int .i64 (a : Int)) (fun w' h => by have c : w'.cell? ⟨h0, 0, none⟩ = some _ := (by rw [cell_of_row w' _ _ _ _ _ h.1]; rfl); go_simp) (fun _ w' h => by have c : w'.cell? ⟨h0, 0, none⟩ = some _ := (by rw [cell_of_row w' _ _ _ _ _ h.1]; rfl); go_simp) (S0) ?_
    simp only [Act.put, List.setIfInBounds_toArray, List.set_cons_zero, List.set_cons_succ]
    refine float_val 5 20 rfl rfl (by kernel_rfl) (by kernel_rfl) (by kernel_rfl) (by kernel_rfl) (by kernel_rfl) noPanic_put (fun _ => rfl) (by decide) (by decide) (.pointer (some ⟨h0, 2, none⟩)) (fun _ _ => by go_simp) (fun _ => fun _ _ => by go_simp) (S0) ?_
    simp only [Act.put, List.setIfInBounds_toArray, List.set_cons_zero, List.set_cons_succ]
    refine float_val 6 21 rfl rfl (by kernel_rfl) (by kernel_rfl) (by kernel_rfl) (by kernel_rfl) (by kernel_rfl) noPanic_put (fun _ => rfl) (by decide) (by decide) (.int .i64 (m : Int)) (fun w' h => by have c : w'.cell? ⟨h0, 2, none⟩ = some _ := (by rw [cell_of_row w' _ _ _ _ _ h.1]; rfl); go_simp) (fun _ w' h => by have c : w'.cell? ⟨h0, 2, none⟩ = some _ := (by rw [cell_of_row w' _ _ _ _ _ h.1]; rfl); go_simp) (S0) ?_
    simp only [Act.put, List.setIfInBounds_toArray, List.set_cons_zero, List.set_cons_succ]
    refine float_val 7 22 rfl rfl (by kernel_rfl) (by kernel_rfl) (by kernel_rfl) (by kernel_rfl) (by kernel_rfl) noPanic_put (fun _ => rfl) (by decide) (by decide) (.pointer (some ⟨b, 0, none⟩)) (fun _ _ => by go_simp) (fun _ => fun _ _ => by go_simp) (S0) ?_
    simp only [Act.put, List.setIfInBounds_toArray, List.set_cons_zero, List.set_cons_succ]
    refine float_call 8 23 rfl rfl rfl rfl rfl (fun _ => rfl) (fun _ => rfl) (by kernel_rfl) (by kernel_rfl) (by decide) (by decide) hz (Nat.le_refl _) 94 #[.pointer (some ⟨b, 0, none⟩)] (fun _ => by go_simp) (fun _ _ => by go_simp) (S0) _ (fun w' hw' => lambdasOf_any t b _ w' (S0 w' hw').2) ?_
    rintro wx e wy hwx ⟨rfl, rfl⟩
    have S1 : ∀ w', Below wy.heap.size wy w' → (RowAt w' h0 112 #[.int .i64 (a : Int), .int .i64 up, .int .i64 (m : Int)] ∧ TrIn w' (fun z => ¬ V z) t b) := fun w' hw' => S0 w' (hwx.trans (hw'.mono hwx.size))
    refine ⟨_, rfl, Below.refl _ _, ?_⟩
    simp only [Act.put, List.setIfInBounds_toArray, List.set_cons_zero, List.set_cons_succ]
    refine float_val 9 24 rfl rfl (by kernel_rfl) (by kernel_rfl) (by kernel_rfl) (by kernel_rfl) (by kernel_rfl) noPanic_put (fun _ => rfl) (by decide) (by decide) (.int .i64 ((m : Int) + (t.lams : Int))) (fun _ _ => by go_simp) (fun _ => fun _ _ => by go_simp) (S1) ?_
    simp only [Act.put, List.setIfInBounds_toArray, List.set_cons_zero, List.set_cons_succ]
    refine float_val 10 25 rfl rfl (by kernel_rfl) (by kernel_rfl) (by kernel_rfl) (by kernel_rfl) (by kernel_rfl) noPanic_put (fun _ => rfl) (by decide) (by decide) (.agg #[.int .i64 ((a : Int) + 1), .int .i64 (a : Int), .int .i64 ((m : Int) + (t.lams : Int))]) (fun _ _ => by go_simp) (fun _ => fun _ _ => by go_simp) (S1) ?_
    simp only [Act.put, List.setIfInBounds_toArray, List.set_cons_zero, List.set_cons_succ]
    refine float_end rfl rfl rfl (fun _ => rfl) (by kernel_rfl) hz (hwx.size) (S1) ?_
    intro W3 nb hW3 hN3 hnb
    refine held_one 12 (by kernel_rfl) rfl rfl ?_
    intro K hK
    refine store_3_wp 112 _ _ rfl rfl zero_spot.2 nb #[.int .i64 ((a : Int) + 1), .int .i64 (a : Int), .int .i64 ((m : Int) + (t.lams : Int))] rfl (ints3_one _ _ _) rfl rfl #[.int .i64 0, .int .i64 0, .int .i64 0] rfl hN3 ?_
    intro W4 hR4 hg4 hs4
    have hB23 : Below W2.heap.size W2 W3 := by
      have h1 : Below W2.drew.heap.size W2.drew W3 := hwx.trans (hW3.mono hwx.size)
      exact ⟨h1.os, h1.tape, h1.output, h1.size, h1.block⟩
    have hkp : ∀ x, x < W2.heap.size → W4.heap[x]? = W2.heap[x]? := fun x hx => by
      rw [hg4.block x (by have := hB23.size; omega) (by intro e; injection e with e; omega)]
      exact hB23.block x hx
    have hs24 : W2.heap.size ≤ W4.heap.size := by have := hB23.size; omega
    have hV2 : ∀ z, V z → z < W2.heap.size := fun z hz => HLT.out _ _ _ HJ2.out z hz
    have hVn : ¬ V nb := fun h => by have := hV2 nb h; omega
    have hT4 : TrIn W4 (fun z => ¬ V z ∧ z < W.heap.size) t b := TrIn.keep hs24 (fun x _ hl => hkp x hl) (fun _ h _ => h) HT2.out
    have hJ4 : J (pre ++ [(⟨a, up, m, t⟩, b)]) V W4 := HST.out _ _ W3 W4 (some nb) (HST.out _ _ W2 W3 none HJ2.out ⟨hB23.os, hB23.tape, hB23.output, hB23.size, fun k hk _ => hB23.block k hk⟩ (fun r e => by cases e)) hg4 (fun r e => by cases e; exact ⟨hVn, by have := HB1.out.size; have := HKE.out.1; omega⟩)
    have hK4 : KeepsB U W W4 := by
      refine ⟨by have := HB1.out.size; have := HKE.out.1; omega, fun x hx hu => ?_⟩
      rw [hkp x (by have := HB1.out.size; have := HKE.out.1; omega), HKE.out.2 x (by have := HB1.out.size; omega) hu]
      exact HB1.out.block x hx
    have hM4 : MoreB U V W := fun z hz => by
      rcases HMO.out z hz with h | h
      · exact .inl h
      · exact .inr (by have := HB1.out.size; omega)
    refine hK.out _ _ ⟨by unfold RowAt; rw [hkp h0 HR2.out.lt]; exact HR2.out, TrIn.mono (fun _ h _ => h.1) hT4⟩ ?_
    refine wpAnyH_done (by kernel_rfl) ?_ _
    refine NoPanic.normal ?_
    obtain ⟨o, c, hpc, _⟩ := hT4.parts
    have hbl := hT4.lt
    have HI : Hid (J (pre ++ [(⟨a, up, m, t⟩, b)]) V W4 ∧ MoreB U V W ∧ KeepsB U W W4 ∧ RowAt W4 nb 112 #[.int .i64 ((a : Int) + 1), .int .i64 (a : Int), .int .i64 ((m : Int) + (t.lams : Int))] ∧ ¬ V nb ∧ TrIn W4 (fun z => ¬ V z ∧ z < W.heap.size) t b) := ⟨hJ4, hM4, hK4, hR4, hVn, hT4⟩
    have HWN : Hid (W.heap.size ≤ nb) := by unfold Hid; have := HB1.out.size; have := HKE.out.1; omega
    obtain ⟨n, hn⟩ : ∃ n, n = t.kids.length := ⟨_, rfl⟩
    have hn2 : n ≤ 2 := by rw [hn]; cases t <;> simp [Lm.kids]
    rw [← hn] at hpc
    have HN := hideT' hn
    clear hn hK S1 S0 hW3 hN3 hR4 hg4 hs4 hB23 hkp hs24 hV2 hVn hT4 hJ4 hK4 hM4 hwx
    gi_wp2
    gi_loopw [31] (fun x wr => ∃ (As Bs : List Lm) (ys : List (Spot × Nat)) (V' : Nat → Prop), x = .int .i64 (As.length : Int) ∧ t.kids = As ++ Bs ∧ Hid (ys.map Prod.fst = ⟨a, up, m, t⟩ :: kidsW As (a + 1) a (m + t.lams)) ∧ Hid (J (pre ++ ys) V' wr ∧ MoreB U V' W ∧ KeepsB U W wr ∧ RowAt wr nb 112 #[.int .i64 ((a + 1 + szsL As : Nat) : Int), .int .i64 (a : Int), .int .i64 ((m : Int) + (t.lams : Int))] ∧ ¬ V' nb ∧ TrIn wr (fun z => ¬ V' z ∧ z < W.heap.size) t b ∧ wr.heap[b]? = W4.heap[b]?)) (fun x wr => n - idxV x)
    case atStart => exact ⟨[], t.kids, [(⟨a, up, m, t⟩, b)], V, rfl, rfl, rfl, ⟨HI.out.1, HI.out.2.1, HI.out.2.2.1, by simpa [szsL] using HI.out.2.2.2.1, HI.out.2.2.2.2.1, HI.out.2.2.2.2.2, rfl⟩⟩
    case round =>
      obtain ⟨As, Bs, ys, V', rfl, hk, HYS, HS⟩ := hrel
      obtain ⟨j, hj⟩ : ∃ j, j = As.length := ⟨_, rfl⟩
      rw [← hj]
      have HJL := hideT' hj
      have HKK := hideT' hk
      clear hk hj
      by_cases hlt : (j : Int) < (n : Int)
      · obtain ⟨T, Bs', rfl⟩ : ∃ T Bs', Bs = T :: Bs' := by
          have h1 := congrArg List.length HKK.out
          rw [List.length_append, ← HN.out, ← HJL.out] at h1
          cases Bs with
          | nil => simp at h1; omega
          | cons T Bs' => exact ⟨T, Bs', rfl⟩
        obtain ⟨hJr, hMr, hKr, hRr, hVr, hTr, hbr⟩ := HS.out
        obtain ⟨o', c', hpc', hkid⟩ := hTr.parts
        have hkj : t.kids[j]? = some T := by rw [HKK.out, HJL.out]; simp
        obtain ⟨g, b1, ho', hg, hgP, hcb1, hT1⟩ := hkid j T hkj
        have hoo : o = o' := by
          have h1 : wr.cell? ⟨b, 3, none⟩ = W4.cell? ⟨b, 3, none⟩ := World.cell?_of_block (w := W4) (a := ⟨b, 3, none⟩) hbr
          rw [hpc', hpc, ← HN.out] at h1
          injection h1 with h1
          injection h1 with h1
          exact h1.symm
        subst hoo
        subst ho'
        have HTT : Hid (TrIn wr (fun z => ¬ V' z) T b1) := TrIn.mono (fun _ h _ => h.1) hT1
        have hTm : T ∈ t.kids := by rw [HKK.out]; simp
        have hTs := Lm.kids_lt hTm
        have hszs : a + 1 + szsL As + T.sz ≤ a + t.sz := by
          rw [Lm.sz_kids t, HKK.out, szsL_app]; simp only [szsL]; omega
        obtain ⟨p, hp⟩ : ∃ p, p = a + 1 + szsL As := ⟨_, rfl⟩
        rw [← hp] at hRr hszs
        have HPP := hideT' hp
        have r0 : wr.cell? ⟨nb, 0, none⟩ = some (.int .i64 (p : Int)) := by rw [cell_of_row _ _ _ _ _ _ hRr]; rfl
        have r1 : wr.cell? ⟨nb, 1, none⟩ = some (.int .i64 (a : Int)) := by rw [cell_of_row _ _ _ _ _ _ hRr]; rfl
        have r2 : wr.cell? ⟨nb, 2, none⟩ = some (.int .i64 ((m : Int) + (t.lams : Int))) := by rw [cell_of_row _ _ _ _ _ _ hRr]; rfl
        have HXS : Hid (xs = (pre ++ ys).map Prod.fst ++ T.walk p (a : Int) (m + t.lams) ++ (kidsW Bs' (p + T.sz) a (m + t.lams) ++ post)) := by
          unfold Hid
          rw [HX.out, Lm.walk_kids, HKK.out, kidsW_app, List.map_append, HYS.out, HPP.out]
          simp [kidsW]
        have HCALL := hideT' ((callsIn_wide (n := 2)).2 (callsIn_wide.1 (HIH.out T.sz (by have := HTN.out; omega) T (Nat.le_refl _) b1 p (a : Int) (m + t.lams) l N0 J JF wr V' (pre ++ ys) xs _ HLT.out (Nat.le_trans hN0 hKr.1) HST.out HY.out HTT.out hJr HXS.out (by omega) (by omega))))
        have hcast : ((m + t.lams : Nat) : Int) = (m : Int) + (t.lams : Int) := by omega
        rw [hcast] at HCALL
        clear hcast hpc' hkid hkj hT1 hTm hp hJr hMr hKr hbr hTr hgP
        have HRR := hideT' hRr
        have hnw : nb < wr.heap.size := hRr.lt
        clear hRr
        gi_wp2
        refine ⟨trivial, HCALL.out.mono ?_⟩
        rintro e W5 hpost
        rcases hpost with ⟨rfl, ys2, V2, hy2, hJ5, hM5, hK5⟩ | ⟨rfl, hF⟩
        · have hT5 : TrIn W5 (fun z => ¬ V2 z) T b1 := TrIn.keep hK5.1 (fun x hx hl => hK5.2 x hl hx) (fun x hx hl hv => by rcases hM5 x hv with h | h; exact hx h; omega) HTT.out
          have hc4 := hT5.size
          have hR5 : RowAt W5 nb 112 #[.int .i64 (p : Int), .int .i64 (a : Int), .int .i64 ((m : Int) + (t.lams : Int))] := by unfold RowAt; rw [hK5.2 nb hnw hVr]; exact HRR.out
          have s0 : W5.cell? ⟨nb, 0, none⟩ = some (.int .i64 (p : Int)) := by rw [cell_of_row _ _ _ _ _ _ hR5]; rfl
          have hV2n : ¬ V2 nb := fun h => by rcases hM5 nb h with h | h; exact hVr h; omega
          have HP5 := hideT' (And.intro hy2 (And.intro hJ5 (And.intro hM5 hK5)))
          have HR5 := hideT' hR5
          have hwp : IntKind.i64.wrap ((p : Int) + (T.sz : Int)) = (p : Int) + (T.sz : Int) := by rw [IntKind.wrap_i64]; omega
          clear hy2 hJ5 hM5 hK5 hT5 hR5 r0 r1 r2
          gi_wp2
          refine wpIn_wide.2 (wp_region_still_tail 8 (by kernel_rfl) (by kernel_rfl) ?_)
          simp only [List.take_succ_cons, List.take_zero, List.drop_succ_cons, List.drop_zero]
          repeat still_step
          refine wpStill_nil ?_
          refine store_at rfl 3 _ _ rfl rfl nb 0 (.int .i64 ((p : Int) + (T.sz : Int))) rfl rfl one_i64 rfl 112 _ (RowAt.drawn HR5.out) (show 0 < 3 by omega) ?_
          intro W6 hR6 hg6 hs6
          have hg6' : W5.grownBy W6 (some nb) := ⟨hg6.os, hg6.tape, hg6.output, hg6.size, hg6.block⟩
          obtain ⟨hy2, hJ5, hM5, hK5⟩ := HP5.out
          have hJ6 : J (pre ++ (ys ++ ys2)) V2 W6 := by
            rw [← List.append_assoc]
            exact HST.out _ _ W5 W6 (some nb) hJ5 hg6' (fun r e => by cases e; exact ⟨hV2n, by have := HWN.out; omega⟩)
          have hR6' : RowAt W6 nb 112 #[.int .i64 ((a + 1 + szsL (As ++ [T]) : Nat) : Int), .int .i64 (a : Int), .int .i64 ((m : Int) + (t.lams : Int))] := by
            have e : ((a + 1 + szsL (As ++ [T]) : Nat) : Int) = (p : Int) + (T.sz : Int) := by rw [szsL_app, HPP.out]; simp only [szsL]; omega
            rw [e]
            simpa using hR6
          obtain ⟨hJr, hMr, hKr, hRr, hVr', hTr, hbr⟩ := HS.out
          have hM6 : MoreB U V2 W := hMr.trans hKr.1 hM5
          have hkW5 : KeepsB U W W5 := hKr.trans hMr hK5
          have hs56 := hg6'.size
          have hK6 : KeepsB U W W6 := ⟨Nat.le_trans hkW5.1 hs56, fun x hx hu => by
            rw [hg6'.block x (Nat.lt_of_lt_of_le hx hkW5.1) (by intro e; injection e with e; have := HWN.out; omega)]
            exact hkW5.2 x hx hu⟩
          have hk56 : ∀ x, x < W.heap.size → ¬ V' x → W6.heap[x]? = wr.heap[x]? := fun x hx hv => by
            rw [hg6'.block x (Nat.lt_of_lt_of_le hx hkW5.1) (by intro e; injection e with e; have := HWN.out; omega)]
            exact hK5.2 x (Nat.lt_of_lt_of_le hx hKr.1) hv
          have HEND : Hid ((ys ++ ys2).map Prod.fst = ⟨a, up, m, t⟩ :: kidsW (As ++ [T]) (a + 1) a (m + t.lams)) := by
            unfold Hid
            rw [List.map_append, HYS.out, hy2, kidsW_app, HPP.out]
            simp [kidsW]
          have HAL : Hid (J (pre ++ (ys ++ ys2)) V2 W6 ∧ MoreB U V2 W ∧ KeepsB U W W6 ∧ RowAt W6 nb 112 #[.int .i64 ((a + 1 + szsL (As ++ [T]) : Nat) : Int), .int .i64 (a : Int), .int .i64 ((m : Int) + (t.lams : Int))] ∧ ¬ V2 nb ∧ TrIn W6 (fun z => ¬ V2 z ∧ z < W.heap.size) t b ∧ W6.heap[b]? = W4.heap[b]?) := by
            refine ⟨hJ6, hM6, hK6, hR6', hV2n, TrIn.keep (Nat.le_trans hK5.1 hs56) (fun x hx hl => hk56 x hx.2 hx.1) (fun x hx hl => ⟨fun hv => ?_, hx.2⟩) hTr, (hk56 b hTr.inP.2 hTr.inP.1).trans hbr⟩
            rcases hM5 x hv with h | h
            · exact hx.1 h
            · omega
          clear hJ6 hM6 hk56 hK6 hkW5 hs56 hR6' hJr hMr hKr hRr hTr hbr hy2 hJ5 hM5 hK5 hg6 hg6' hs6 hR6 HP5 HR5 HRR HCALL
          rename_i K9 hK9
          gi_wp2
          refine hK9 _ _ ?_
          gi_wp2
          go_roundw
          case rel => exact ⟨As ++ [T], Bs', ys ++ ys2, V2, by rw [List.length_append, ← HJL.out]; go_num, by rw [HKK.out]; simp, HEND, HAL⟩
          case measure => simp [idxV]; omega
        · gi_wp2
          go_ret
          exact .inr ⟨rfl, hF⟩
      · have HE : Hid (Bs = []) := by
          unfold Hid
          have h1 := congrArg List.length HKK.out
          rw [List.length_append, ← HN.out, ← HJL.out] at h1
          exact List.length_eq_zero_iff.1 (by omega)
        gi_wp2
        go_ret
        refine .inl ⟨rfl, ys, V', ?_, HS.out.1, HS.out.2.1, HS.out.2.2.1⟩
        rw [HYS.out, Lm.walk_kids, HKK.out, HE.out, List.append_nil]
  · gi_wp2
    go_ret
    exact .inr ⟨rfl, hF⟩

theorem walkFrom_all : ∀ N, WalkC N := by
  intro N
  induction N using Nat.strongRecOn with
  | _ N IH => exact walkFrom_step N IH

/-- What the iterator of a tree needs, and what it gives. -/
def WNeed (bx : Nat) (t : Lm) (b : Nat) (U : Nat → Prop) (W : World) : Prop := TrIn W (fun z => ¬ U z) t b ∧ W.cell? ⟨bx, 0, none⟩ = some (.pointer (some ⟨b, 0, none⟩))
def WNx (t : Lm) (pre : List (Spot × Nat)) (x : Spot × Nat) (V : Nat → Prop) (W : World) : Prop := (∃ post, t.walk 0 (-1) 0 = pre.map Prod.fst ++ x.1 :: post) ∧ TrIn W (fun z => ¬ V z) x.1.t x.2
set_option maxRecDepth 100000 in
set_option maxHeartbeats 4000000 in
theorem walk_seq (bx : Nat) (t : Lm) (b : Nat) (ht : t.sz ≤ 1000000) :
    SeqOwn Tryd.prog 82 #[.pointer (some ⟨bx, 0, none⟩)] encS (WNeed bx t b) (WNx t) (fun ys => ys.map Prod.fst = t.walk 0 (-1) 0) := by
  intro l J JF W U hlt hst hY hN hJ
  have HC := hideT' ((callsIn_wide (n := 2)).2 (callsIn_wide.1 (walkFrom_all t.sz t (Nat.le_refl _) b 0 (-1) 0 l W.heap.size J JF W U [] (t.walk 0 (-1) 0) [] hlt (Nat.le_refl _) hst hY hN.1 hJ (by simp) (by omega) (by omega))))
  have hc := hN.2
  have hz := zero_spot.1
  clear hlt hst hY hN hJ
  refine callsIn_of_wp Tryd.func82 rfl trivial ?_ rfl
  simp only [Tryd.ntmps82, List.size_toArray, List.length_cons, List.length_nil, Nat.reduceAdd, Nat.reduceSub, Array.replicate_succ, Array.replicate_zero, List.push_toArray, List.append_toArray, List.nil_append, List.cons_append]
  gi_wp2
  refine ⟨trivial, HC.out.mono ?_⟩
  rintro e W' hpost
  rcases hpost with ⟨rfl, ys, V, hy, hJ, _, _⟩ | ⟨rfl, hF⟩
  · have HH : Hid (ys.map Prod.fst = t.walk 0 (-1) 0 ∧ J ys V W') := ⟨hy, hJ⟩
    clear hy hJ
    gi_wp2
    go_end0
    exact ⟨⟨_, rfl⟩, .inl ⟨ys, V, HH.out.1, HH.out.2⟩⟩
  · gi_wp2
    go_end0
    exact ⟨⟨_, rfl⟩, .inr hF⟩
theorem walk_any (b : Nat) (w : World) :
    Calls Tryd.prog 72 #[.pointer (some ⟨b, 0, none⟩)] w fun e w' => e = .returned (.func (.func 82) #[] #[.pointer (some ⟨w.heap.size, 0, none⟩)]) ∧ w' = w.alloc (.cells #[.pointer (some ⟨b, 0, none⟩)] 75) := by
  go_enter Tryd.func72, Tryd.ntmps72
  go_wp2
  go_ret
  exact ⟨rfl, rfl⟩
end Go.Proofs.YtgolfbjfopoeeaaDoor.CB

/-
  What a method is looked up to (within a fenced walk).
-/
namespace Go.Proofs.YtgolfbjfopoeeaaDoor.CB
open Go.RowKit
theorem meth_run {t : TypeId} {name : String} {f : FuncId} (hm : (Tryd.prog.info? t).map (fun i => (i.methods.find? (·.name == name)).map (fun m => (m.path.toList, m.func))) = some (some ([], some (f, false)))) (hu : ∃ fs, Tryd.prog.underlying t = some (.struct fs)) (n : Nat) (v : Value) (w : World) : Sem.run Tryd.prog (method (n + 1) t v name) w = .ok (f, v) w := by
  obtain ⟨i, hi, h1⟩ := Option.map_eq_some_iff.1 hm
  obtain ⟨m, hf, h2⟩ := Option.map_eq_some_iff.1 h1
  simp only [Prod.mk.injEq] at h2
  obtain ⟨hp, hfu⟩ := h2
  obtain ⟨fs, hu⟩ := hu
  unfold method
  simp [Sem.run_bind, typeInfo, hi, hf, hp, hfu, follow, receiverAt, Sem.run_pure, Result.andThen, underlying, hu, Place.get]
theorem meth_limits (n : Nat) (v : Value) (w : World) : Sem.run Tryd.prog (method (n + 1) 72 v "loop.example/g00201/impl.limits") w = .ok (149, v) w := meth_run (by kernel_rfl) ⟨_, Tryd.underlying72⟩ n v w
theorem meth_arity (n : Nat) (v : Value) (w : World) : Sem.run Tryd.prog (method (n + 1) 72 v "loop.example/g00201/impl.arity") w = .ok (148, v) w := meth_run (by kernel_rfl) ⟨_, Tryd.underlying72⟩ n v w
theorem meth_under (n : Nat) (v : Value) (w : World) : Sem.run Tryd.prog (method (n + 1) 72 v "loop.example/g00201/impl.under") w = .ok (150, v) w := meth_run (by kernel_rfl) ⟨_, Tryd.underlying72⟩ n v w
end Go.Proofs.YtgolfbjfopoeeaaDoor.CB

/-
  What isGood of a tree answers.
-/
namespace Go.Proofs.YtgolfbjfopoeeaaDoor.CB
open Go.RowKit Go.Shelf BL
set_option linter.unusedVariables false
attribute [local go_sem] Oper.semAt_some

theorem TrIn.own3 {w : World} {P : Nat → Prop} {t : Lm} {b : Nat} (h : TrIn w P t b) : ∃ u, w.cell? ⟨b, 0, none⟩ = some (.int .i64 t.kd) ∧ w.cell? ⟨b, 1, none⟩ = some (.int .i64 t.nm) ∧ w.cell? ⟨b, 2, none⟩ = some (.int .i64 u) := by
  obtain ⟨u, v, h⟩ := h.head
  exact ⟨u, by rw [cell_of_row _ _ _ _ _ _ h]; rfl, by rw [cell_of_row _ _ _ _ _ _ h]; rfl, by rw [cell_of_row _ _ _ _ _ _ h]; rfl⟩
theorem results_one {fn : Func} {p : Tmp} (h : fn.results = #[.cell p 4]) (tmps : Array Value) (w : World) (b : Nat) (v : Value) (hp : tmps[p]?.getD undef = .pointer (some ⟨b, 0, none⟩)) (hc : w.cell? ⟨b, 0, none⟩ = some v) :
    (results fn tmps).run Tryd.prog w = .ok v w := by
  have hu := Tryd.underlying4
  simp [results, h, go_sem, hp, hc]
/-- Whether a node may stand. -/
def Lm.okN : Lm → Bool
  | .var n => n.ok
  | _ => true
theorem okN_ar (t : Lm) (u : Int) : decide (arN ⟨t.kd, t.nm, u⟩ < 0) = !t.okN := by
  cases t with
  | var c =>
    simp only [Lm.kd, Lm.nm, arN, Lm.okN]
    cases c with
    | v n =>
      show decide ((if (leafOf 1 n).isSome = true then 0 else if (1 : Int) = 2 ∧ n = 0 then 2 else -1) < 0) = !(Leaf.v n).ok
      by_cases h : 0 ≤ n ∧ n ≤ 999
      · have h1 : leafOf 1 n = some (.v n) := by simp [leafOf, h]
        have h2 : (Leaf.v n).ok = true := by simp [Leaf.ok, h]
        simp [h1, h2]
      · have h1 : leafOf 1 n = none := by simp [leafOf]; omega
        have h2 : (Leaf.v n).ok = false := by simp only [Leaf.ok]; simpa using h
        simp [h1, h2]
    | s => rfl
    | k => rfl
    | i => rfl
  | app s t => simp [Lm.kd, Lm.nm, arN, Lm.okN, leafOf]
theorem ok_walk {t : Lm} {ys : List (Spot × Nat)} (h : ys.map Prod.fst = t.walk 0 (-1) 0) (hall : ∀ y ∈ ys, y.1.t.okN = true) : t.ok = true := by
  rw [Lm.walk_ok t 0 (-1) 0, ← h, List.all_eq_true]
  intro x hx
  obtain ⟨y, hy, rfl⟩ := List.mem_map.1 hx
  have := hall y hy
  revert this
  cases y.1.t <;> simp [Lm.okN]
theorem ok_bad {t : Lm} {pre : List Spot} {x : Spot} {post : List Spot} (h : t.walk 0 (-1) 0 = pre ++ x :: post) (hx : x.t.okN = false) : t.ok = false := by
  rw [Lm.walk_ok t 0 (-1) 0, List.all_eq_false]
  refine ⟨x, by rw [h]; simp, ?_⟩
  revert hx
  cases x.t <;> simp [Lm.okN]
def GdI (w : World) (pre : List (Spot × Nat)) (V : Nat → Prop) (W : World) : Prop :=
  (∀ z, V z ↔ z = w.heap.size) ∧ RowAt W w.heap.size 4 #[.bool false] ∧ Below w.heap.size w W ∧ ∀ y ∈ pre, y.1.t.okN = true
theorem GdI.step {w : World} {pre : List (Spot × Nat)} {V : Nat → Prop} {A B : World} {row : Option Nat} (h : GdI w pre V A) (hg : A.grownBy B row) (hr : ∀ r, row = some r → ¬ V r ∧ w.heap.size ≤ r) : GdI w pre V B :=
  ⟨h.1, h.2.1.grown hg (fun e => (hr _ e.symm).1 ((h.1 _).2 rfl)), h.2.2.1.grown hg h.2.2.1.size (fun k e => (hr k e).2), h.2.2.2⟩

/-- How a round of isGood begins. -/
def gdAct (w w2 : World) (t : Lm) (u : Int) (b : Nat) (x : Spot × Nat) : Act :=
  { tmps := #[.pointer (some ⟨b, 0, none⟩), undef, .pointer (some ⟨w.heap.size, 0, none⟩), .int .i64 200, .int .i64 60, undef, .pointer (some ⟨x.2, 0, none⟩), .tuple #[.int .i64 200, .int .i64 60], .pointer (some ⟨b, 0, none⟩), .pointer (some ⟨b, 0, none⟩), .pointer (some ⟨b, 0, none⟩),
      .agg #[.int .i64 t.kd, .int .i64 t.nm, .int .i64 u], .iface 72 (.agg #[.int .i64 t.kd, .int .i64 t.nm, .int .i64 u]), .tuple #[.int .i64 200, .int .i64 60], .int .i64 200, .int .i64 60, .pointer (some ⟨b, 0, none⟩), .pointer (some ⟨b, 0, none⟩), .pointer (some ⟨b, 4, none⟩),
      .int .i64 (t.sz : Int), .int .i64 200, .bool (decide ((200 : Int) < (t.sz : Int))), .bool (decide ((200 : Int) < (t.sz : Int))), .pointer (some ⟨b, 0, none⟩), .pointer (some ⟨b, 0, none⟩), .pointer (some ⟨b, 5, none⟩), .int .i64 (t.dp : Int), .int .i64 60, .bool (decide ((60 : Int) < (t.dp : Int))),
      .bool (decide ((200 : Int) < (t.sz : Int)) || decide ((60 : Int) < (t.dp : Int))), .pointer (some ⟨b, 0, none⟩), .func (.func 82) #[] #[.pointer (some ⟨w2.heap.size, 0, none⟩)], .agg #[.int .i64 (x.1.at_ : Int), .int .i64 x.1.up, .int .i64 (x.1.lam : Int)], .pointer (some ⟨x.2, 0, none⟩), undef, undef, undef, undef, undef, undef, undef], defers := [] }
set_option maxRecDepth 100000 in
set_option maxHeartbeats 8000000 in
theorem isGood_any (t : Lm) (b : Nat) (P : Nat → Prop) (w : World) (hT : TrIn w P t b) (hs : t.sz ≤ 1000000) :
    Calls Tryd.prog 71 #[.pointer (some ⟨b, 0, none⟩)] w fun e w' => e = .returned (.bool t.good) ∧ Below w.heap.size w w' := by
  refine (callsIn_wide (n := 4)).1 ?_
  have HT := hideT' hT
  obtain ⟨u, k0, k1, k2⟩ := hT.own3
  have k4 := hT.size
  have k5 := hT.deep
  have hbl := hT.lt
  have hds := t.dp_sz
  obtain ⟨r, hr⟩ : ∃ r, r = t.good := ⟨_, rfl⟩
  rw [← hr]
  have HR := hideT' hr
  clear hT hr
  have hB1 : Below w.heap.size w (w.alloc (.cells #[.bool false] 4)) := (Below.refl _ _).alloc (Nat.le_refl _) _
  have HB2 : Hid (Below w.heap.size w ((w.alloc (.cells #[.bool false] 4)).alloc (.cells #[.int .i64 t.kd, .int .i64 t.nm, .int .i64 u] 72))) := hB1.alloc (by simp) _
  have HRO : Hid (RowAt ((w.alloc (.cells #[.bool false] 4)).alloc (.cells #[.int .i64 t.kd, .int .i64 t.nm, .int .i64 u] 72)) w.heap.size 4 #[.bool false]) := RowAt.old (RowAt.new _ _ _) _
  clear hB1
  refine callsIn_of_wp_marks Tryd.func71 rfl trivial ?_ rfl
  simp only [Tryd.ntmps71, List.size_toArray, List.length_cons, List.length_nil, Nat.reduceAdd, Nat.reduceSub, Array.replicate_succ, Array.replicate_zero, List.push_toArray, List.append_toArray, List.nil_append, List.cons_append]
  gi_wp2
  refine ⟨fun _ _ => trivial, ?_⟩
  rw [meth_limits 313]
  gi_wp2
  gi_at_call 149
  refine (callsIn_wide.2 (limits_any t.kd t.nm u _)).mono ?_
  rintro e w2 ⟨rfl, hw2⟩
  have hB2 : Below w.heap.size w w2 := by rw [hw2]; exact HB2.out
  have hR2 : RowAt w2 w.heap.size 4 #[.bool false] := by rw [hw2]; exact HRO.out
  have m4 : w2.cell? ⟨b, 4, none⟩ = some (.int .i64 (t.sz : Int)) := by rw [hB2.cell (p := ⟨b, 4, none⟩) hbl]; exact k4
  have m5 : w2.cell? ⟨b, 5, none⟩ = some (.int .i64 (t.dp : Int)) := by rw [hB2.cell (p := ⟨b, 5, none⟩) hbl]; exact k5
  have hfr : w2.frozen? ⟨w.heap.size, 0, none⟩ = false := frozen_of_row w2 w.heap.size _ _ _ hR2
  have hcc : w2.cell? ⟨w.heap.size, 0, none⟩ = some (.bool false) := by rw [cell_of_row _ _ _ _ _ _ hR2]; rfl
  have HW2 := hideT' (And.intro hB2 hR2)
  have hsz2 := hR2.lt
  clear hw2 hB2 hR2 k0 k1 k2 k4 k5 HB2 HRO
  by_cases hbig : t.sz ≤ 200 ∧ t.dp ≤ 60
  · have HGD : Hid (r = t.ok) := by
      unfold Hid; rw [HR.out]; unfold Lm.good; rw [decide_eq_true hbig.1, decide_eq_true hbig.2]; simp
    have h1 : ¬ (200 : Int) < (t.sz : Int) := by omega
    have h2 : ¬ (60 : Int) < (t.dp : Int) := by omega
    clear hbig
    gi_wp2
    refine ⟨trivial, ?_⟩
    gi_at_call 72
    refine (callsIn_wide.2 (walk_any b _)).mono ?_
    rintro e w3 ⟨rfl, hw3⟩
    have hs3 : w3.heap.size = w2.heap.size + 1 := by rw [hw3]; simp
    have hB23 : Below w2.heap.size w2 w3 := by rw [hw3]; exact (Below.refl _ _).alloc (Nat.le_refl _) _
    have hB3 : Below w.heap.size w w3 := HW2.out.1.trans (hB23.mono HW2.out.1.size)
    have hI0 : GdI w [] (fun z => z = w.heap.size) w3 := ⟨fun z => Iff.rfl, HW2.out.2.below hB23 hsz2, hB3, fun y hy => by simp at hy⟩
    have hcx : w3.cell? ⟨w2.heap.size, 0, none⟩ = some (.pointer (some ⟨b, 0, none⟩)) := by
      rw [hw3, cell_of_row _ _ _ _ _ _ (RowAt.new w2 75 #[.pointer (some ⟨b, 0, none⟩)])]; rfl
    have HI0 := hideT' hI0
    have HB3 := hideT' hB3
    have HCX := hideT' hcx
    clear hw3 hI0 hB3 hcx hB23
    gi_wp2
    refine range_ret (gf := 82) (lb := #[.pointer (some ⟨w2.heap.size, 0, none⟩)]) (by rfl) (enters_of Tryd.func82 (by kernel_rfl) rfl) encS (fun x => rfl) _ _ _ (walk_seq w2.heap.size t b hs)
      (fun pre x V V' W hVV h => ⟨h.1, TrIn.mono (fun z hz _ hv => hz (hVV z hv)) h.2⟩)
      (GdI w) (fun s V A h z hz => by rw [(h.1 z).1 hz]; exact h.2.1.lt) (fun s V A B row h hg hr => h.step hg (fun r e => ⟨(hr r e).1, by have := (hr r e).2; omega⟩)) (fun z => z = w.heap.size) HI0.out ?need
      (fun pre x V c W => c = gdAct w w2 t u b x ∧ (∃ post, t.walk 0 (-1) 0 = pre.map Prod.fst ++ x.1 :: post) ∧ GdI w pre V W ∧ TrIn W (fun z => ¬ V z) x.1.t x.2) ?ax
      (fun W => RowAt W w.heap.size 4 #[.bool false] ∧ Below w.heap.size w W ∧ t.ok = false) ?rf ?assign ?body ?leave ?done
    case need =>
      intro B V hg hV
      refine ⟨TrIn.keep (w := w) (P := P) (by have := hg.size; omega) (fun x _ hx => ?_) (fun x _ hx hv => ?_) HT.out, ?_⟩
      · rw [hg.block x (by omega) (by simp)]; exact HB3.out.block x hx
      · rcases hV x hv with h | h <;> omega
      · rw [World.cell?_of_block (w := w3) (a := ⟨w2.heap.size, 0, none⟩) (hg.block _ (by simp; omega) (by simp))]; exact HCX.out
    case ax =>
      rintro s x V c A B row ⟨h1, h2, h3, h5⟩ hg hr
      exact ⟨h1, h2, h3.step hg (fun r e => ⟨(hr r e).1.1, by have := (hr r e).1.2; omega⟩), TrIn.turn hg (fun r e => (hr r e).2) h5⟩
    case rf =>
      rintro A B row ⟨h1, h2, h3⟩ hg hr
      exact ⟨TrIn.turn.row_same h1 hg (fun r e => (hr r e).2), h2.grown hg h2.size (fun k e => by have := (hr k e).1; omega), h3⟩
    case assign =>
      intro l pre x V W K hNx hI hK
      have HI := hideT' hI
      have HK := hideT' hK
      have HNX := hideT' hNx
      unfold encS
      clear hI hK hNx
      gi_wp2
      exact HK.out _ _ V ⟨rfl, HNX.out.1, HI.out, HNX.out.2⟩ (MoreB.refl _ _) (KeepsB.refl _ _)
    case body =>
      rintro l pre x V c W ⟨rfl, ⟨post, hpo⟩, hI, hTx⟩
      unfold gdAct
      obtain ⟨u2, d0, d1, d2⟩ := hTx.own3
      have hok := okN_ar x.1.t u2
      obtain ⟨kd, hkd⟩ : ∃ kd, kd = x.1.t.kd := ⟨_, rfl⟩
      obtain ⟨nm, hnm⟩ : ∃ nm, nm = x.1.t.nm := ⟨_, rfl⟩
      rw [← hkd] at d0 hok
      rw [← hnm] at d1 hok
      obtain ⟨ar, har⟩ : ∃ ar, ar = arN ⟨kd, nm, u2⟩ := ⟨_, rfl⟩
      have HAR : Hid (∀ w, Calls Tryd.prog 148 #[.agg #[.int .i64 kd, .int .i64 nm, .int .i64 u2]] w fun e w' => e = .returned (.int .i64 ar) ∧ w' = w.alloc (.cells #[.int .i64 kd, .int .i64 nm, .int .i64 u2] 72)) := by
        unfold Hid; rw [har]; exact arity_any kd nm u2
      rw [← har] at hok
      have hR := hI.2.1
      have hcr : W.cell? ⟨w.heap.size, 0, none⟩ = some (.bool false) := by rw [cell_of_row _ _ _ _ _ _ hR]; rfl
      have hfrz : W.frozen? ⟨w.heap.size, 0, none⟩ = false := frozen_of_row W w.heap.size _ _ _ hR
      have hrl := hR.lt
      have HI := hideT' hI
      have HPO := hideT' hpo
      clear hkd hnm har hR hTx hI hpo
      have hal : Below W.heap.size W (W.alloc (.cells #[.int .i64 kd, .int .i64 nm, .int .i64 u2] 72)) := (Below.refl _ _).alloc (Nat.le_refl _) _
      have HAL := hideT' hal
      clear hal
      cases hq : x.1.t.okN with
      | false =>
        have hneg : ar < 0 := by rw [hq] at hok; simpa using hok
        have HOK := hideT' (ok_bad HPO.out hq)
        clear hok hq
        gi_wp2
        refine ⟨fun _ _ => trivial, ?_⟩
        rw [meth_arity 313]
        gi_wp2
        refine (CallsIn.inRound l (callsIn_wide.2 (HAR.out _))).mono ?_
        rintro e w4 ⟨rfl, rfl⟩
        gi_wp2
        have hst : RowAt (W.setCell ⟨w.heap.size, 0, none⟩ (.bool false)) w.heap.size 4 #[.bool false] := heap_setCell_same W w.heap.size 0 _ _ (.bool false) HI.out.2.1
        have hbs : Below w.heap.size w (W.setCell ⟨w.heap.size, 0, none⟩ (.bool false)) := HI.out.2.2.1.setCell (by simp) _
        refine ⟨⟨RowAt.old hst _, hbs.alloc hbs.size _, HOK.out⟩, ⟨by simp, fun z hz hv => ?_⟩⟩
        have hzn : z ≠ w.heap.size := fun e => hv ((HI.out.1 z).2 e)
        rw [Below.heap_alloc _ _ _ (by simp; exact hz), heap_setCell_other _ ⟨w.heap.size, 0, none⟩ z _ (fun e => hzn e)]
      | true =>
        have hneg : ¬ ar < 0 := by rw [hq] at hok; simpa using hok
        have HQ := hideT' hq
        clear hok hq
        gi_wp2
        refine ⟨fun _ _ => trivial, ?_⟩
        rw [meth_arity 313]
        gi_wp2
        refine (CallsIn.inRound l (callsIn_wide.2 (HAR.out _))).mono ?_
        rintro e w4 ⟨rfl, rfl⟩
        gi_wp2
        refine ⟨V, ?_, MoreB.refl _ _, KeepsB.below HAL.out⟩
        have h1 := HI.out.step (row := none) ⟨HAL.out.os, HAL.out.tape, HAL.out.output, HAL.out.size, fun k hk _ => HAL.out.block k hk⟩ (fun r e => by cases e)
        refine ⟨h1.1, h1.2.1, h1.2.2.1, fun y hy => ?_⟩
        rcases List.mem_append.1 hy with hy | hy
        · exact h1.2.2.2 y hy
        · rw [List.mem_singleton] at hy
          subst hy
          exact HQ.out
    case leave =>
      rintro D W hD ⟨hR, hB, hno⟩ hK
      have HF : Hid (r = false) := by unfold Hid; rw [HGD.out, hno]
      have HRB := hideT' (And.intro hR hB)
      have HK := hideT' hK
      clear hR hB hno hK
      gi_wp2
      have hR' : RowAt (W.putObj D (.deferred none)) w.heap.size 4 #[.bool false] := row_put HRB.out.1 HK.out rfl
      exact leave_marks (v := .bool false) HK.out (results_one Tryd.results71 _ _ w.heap.size (.bool false) rfl (by rw [cell_of_row _ _ _ _ _ _ hR']; rfl)) ⟨by rw [HF.out], below_put HRB.out.2 (by omega) HRB.out.2.size⟩
    case done =>
      rintro D ys V W hD hS ⟨hV, hR, hB, hall⟩ hVD hK
      have HF : Hid (r = true) := by unfold Hid; rw [HGD.out]; exact ok_walk hS hall
      have hcr : W.cell? ⟨w.heap.size, 0, none⟩ = some (.bool false) := by rw [cell_of_row _ _ _ _ _ _ hR]; rfl
      have hfrz : W.frozen? ⟨w.heap.size, 0, none⟩ = false := frozen_of_row W w.heap.size _ _ _ hR
      have hst : RowAt (W.setCell ⟨w.heap.size, 0, none⟩ (.bool true)) w.heap.size 4 #[.bool true] := heap_setCell_same W w.heap.size 0 _ _ (.bool true) hR
      have hDn : D ≠ w.heap.size := fun e => by rw [e] at hK; rw [hR] at hK; cases hK
      have hK2 : (W.setCell ⟨w.heap.size, 0, none⟩ (.bool true)).heap[D]? = some (.deferred (some [])) := by rw [heap_setCell_other W ⟨w.heap.size, 0, none⟩ D _ (fun e => hDn e)]; exact hK
      have HRB := hideT' (And.intro hst (hB.setCell (p := ⟨w.heap.size, 0, none⟩) (by simp) (.bool true)))
      have HK := hideT' hK2
      clear hR hB hall hK hst hK2 hV
      gi_wp2
      have hR' : RowAt ((W.setCell ⟨w.heap.size, 0, none⟩ (.bool true)).putObj D (.deferred none)) w.heap.size 4 #[.bool true] := row_put HRB.out.1 HK.out rfl
      exact leave_marks (v := .bool true) HK.out (results_one Tryd.results71 _ _ w.heap.size (.bool true) rfl (by rw [cell_of_row _ _ _ _ _ _ hR']; rfl)) ⟨by rw [HF.out], below_put HRB.out.2 (by omega) HRB.out.2.size⟩
  · have HF : Hid (r = false) := by
      unfold Hid; rw [HR.out]; unfold Lm.good
      have : (decide (t.sz ≤ 200) && decide (t.dp ≤ 60)) = false := by simpa using hbig
      rw [this]; simp
    have hB5 : Below w.heap.size w (w2.setCell ⟨w.heap.size, 0, none⟩ (.bool false)) := HW2.out.1.setCell (by simp) _
    have hc5 : (w2.setCell ⟨w.heap.size, 0, none⟩ (.bool false)).cell? ⟨w.heap.size, 0, none⟩ = some (.bool false) := by
      have := heap_setCell_same w2 w.heap.size 0 _ _ (.bool false) HW2.out.2
      rw [cell_of_row _ _ _ _ _ _ this]; rfl
    by_cases h1 : (200 : Int) < (t.sz : Int)
    · gi_wp2
      exact ⟨_, results_one Tryd.results71 _ _ w.heap.size (.bool false) rfl hc5, by rw [HF.out], hB5⟩
    · have h2 : (60 : Int) < (t.dp : Int) := by omega
      gi_wp2
      exact ⟨_, results_one Tryd.results71 _ _ w.heap.size (.bool false) rfl hc5, by rw [HF.out], hB5⟩
end Go.Proofs.YtgolfbjfopoeeaaDoor.CB

/-
  What tellTree answers.
-/
namespace Go.Proofs.YtgolfbjfopoeeaaDoor.CB
open Go.RowKit Go.Shelf BL
set_option linter.unusedVariables false
attribute [local go_sem] Oper.semAt_some

set_option maxHeartbeats 1000000 in
theorem under_any (k n u up : Int) (w : World) :
    Calls Tryd.prog 150 #[.agg #[.int .i64 k, .int .i64 n, .int .i64 u], .int .i64 up] w fun e w' => e = .returned (.agg #[.int .i64 k, .int .i64 n, .int .i64 up]) ∧ Below w.heap.size w w' := by
  have hz := zero_comb.1
  have hRx : RowAt ((w.alloc (.cells #[.int .i64 k, .int .i64 n, .int .i64 up] 72)).alloc (.cells #[.int .i64 k, .int .i64 n, .int .i64 up] 72)) (w.heap.size + 1) 72 #[.int .i64 k, .int .i64 n, .int .i64 up] := by
    have := RowAt.new (w.alloc (.cells #[.int .i64 k, .int .i64 n, .int .i64 up] 72)) 72 #[.int .i64 k, .int .i64 n, .int .i64 up]
    rwa [World.size_alloc] at this
  have HRX := hideT' hRx
  clear hRx
  go_enter Tryd.func150, Tryd.ntmps150
  go_wp2
  refine bodyPost_ret (v := .agg #[.int .i64 k, .int .i64 n, .int .i64 up]) (results_cell_row Tryd.results150 _ _ (w.heap.size + 1) 72 #[.int .i64 k, .int .i64 n, .int .i64 up] (0, 0) _ rfl HRX.out Tryd.underlying72 rfl zero_comb.2) rfl ⟨rfl, ?_⟩
  exact ((Below.refl _ _).alloc (Nat.le_refl _) _).alloc (by simp) _

theorem lateR {ops : Array Oper} {Q : Exit → Act → World → Prop} {a : Act} {w : World} {id l n : Nat} (late : List Nat) (S : World → Prop) (hm : Tryd.prog.follows .mixedOrders = true) (hd : noDefer ops = true)
    (h : BL.wpAnyL Tryd.prog .any ops (Calm Q) late S ops.size (Array.replicate ops.size false) a w.drew) : (Code.region id ops true).wpIn (Fence.wide.inRound l) n Tryd.prog Q a w :=
  wpIn_mono (region_round hm hd (fun ⟨_, _, h⟩ => h) (BL.wpAny_of_late _ _ _ _ h)) Calm.imp
theorem one_slterm : (Tryd.prog.info? 37).map (·.size) = some 1 := by kernel_rfl
theorem comb_cells (w : World) (d : Int × Int × Int) : ∀ j u, (combL d)[j]? = some u → (w.alloc (.cells #[.int .i64 d.1, .int .i64 d.2.1, .int .i64 d.2.2] 72)).cell? ((⟨w.heap.size, 0, none⟩ : Addr).add j) = some u := fun j u hu => by
  have e : (⟨w.heap.size, 0, none⟩ : Addr).add j = ⟨w.heap.size, j, none⟩ := by unfold Addr.add; split <;> simp_all
  rw [e, cell_of_row _ w.heap.size j _ 72 (0, 0) (RowAt.new w 72 #[.int .i64 d.1, .int .i64 d.2.1, .int .i64 d.2.2])]
  simpa [combL] using hu
/-- The nodes of places that a walk came by. -/
def spotsT (pre : List (Spot × Nat)) : List (Int × Int × Int) := pre.map fun x => (x.1.t.kd, x.1.t.nm, x.1.up)
theorem spotsT_app (pre : List (Spot × Nat)) (x : Spot × Nat) : spotsT (pre ++ [x]) = spotsT pre ++ [(x.1.t.kd, x.1.t.nm, x.1.up)] := by simp [spotsT]
theorem spotsT_len (pre : List (Spot × Nat)) : (spotsT pre).length = pre.length := by simp [spotsT]
theorem spotsT_all {pre : List (Spot × Nat)} {t : Lm} (h : pre.map Prod.fst = t.walk 0 (-1) 0) : spotsT pre = tri (t.flat 0 (-1)) := by
  unfold tri
  rw [← Lm.walk_flat t 0 (-1) 0, ← h, List.map_map, List.map_map]
  rfl
def TellI (w : World) (pre : List (Spot × Nat)) (V : Nat → Prop) (W : World) : Prop :=
  ∃ v, (∀ z, V z ↔ (z = w.heap.size ∨ v.ownBlock = some z)) ∧ RowAt W w.heap.size 37 #[v] ∧ OwnR W (w.heap.size + 1) v 72 combL 3 (spotsT pre) ∧ Below w.heap.size w W
theorem TellI.lt {w : World} {pre : List (Spot × Nat)} {V : Nat → Prop} {W : World} (h : TellI w pre V W) : ∀ z, V z → z < W.heap.size := by
  obtain ⟨v, hV, hR, hO, hB⟩ := h
  intro z hz
  rcases (hV z).1 hz with rfl | hz
  · exact hR.lt
  · exact (hO.lt z hz).2
theorem TellI.step {w : World} {pre : List (Spot × Nat)} {V : Nat → Prop} {A B : World} {row : Option Nat} (h : TellI w pre V A) (hg : A.grownBy B row) (hr : ∀ r, row = some r → ¬ V r ∧ w.heap.size ≤ r) : TellI w pre V B := by
  obtain ⟨v, hV, hR, hO, hB⟩ := h
  refine ⟨v, hV, hR.grown hg (fun e => (hr _ e.symm).1 ((hV _).2 (.inl rfl))), own_keep hO (fun g hgo => hg.block g (hO.lt g hgo).2 (fun e => (hr _ e.symm).1 ((hV _).2 (.inr hgo)))), hB.grown hg hB.size (fun k e => (hr k e).2)⟩
/-- How a round of tellTree begins. -/
def tellAct (w : World) (b sb : Nat) (x : Spot × Nat) : Act := { tmps := #[.pointer (some ⟨b, 0, none⟩), undef, .slice none 0 0, .bool false, .pointer (some ⟨w.heap.size, 0, none⟩), .pointer (some ⟨sb, 0, none⟩), .pointer (some ⟨x.2, 0, none⟩), .pointer (some ⟨b, 0, none⟩), .bool true, .bool false, .pointer (some ⟨b, 0, none⟩), .func (.func 82) #[] #[.pointer (some ⟨w.heap.size + 1, 0, none⟩)], .agg #[.int .i64 (x.1.at_ : Int), .int .i64 x.1.up, .int .i64 (x.1.lam : Int)], .pointer (some ⟨x.2, 0, none⟩), undef, undef, undef, undef, undef, undef, undef, undef, undef, undef, undef, undef], defers := [] }
/-- What tellTree answers. -/
def ToldT (w : World) (t : Lm) (e : Ending) (w' : World) : Prop :=
  ∃ u, e = .returned (.tuple #[u, .bool t.good]) ∧ OwnR w' w.heap.size u 72 combL 3 (if t.good then tri (t.flat 0 (-1)) else [])

set_option maxRecDepth 100000 in
set_option maxHeartbeats 8000000 in
theorem tellTree_any (t : Lm) (b : Nat) (P : Nat → Prop) (w0 : World) (hT : TrIn w0 P t b) (hs : t.sz ≤ 1000000) :
    Calls Tryd.prog 46 #[.pointer (some ⟨b, 0, none⟩)] w0 fun e w' => ToldT w0 t e w' ∧ Below w0.heap.size w0 w' := by
  refine (callsIn_wide (n := 4)).1 ?_
  have HT0 := hideT' hT
  have HG := hideT' (isGood_any t b P w0 hT hs)
  clear hT
  obtain ⟨r, hr⟩ : ∃ r, r = t.good := ⟨_, rfl⟩
  rw [← hr] at HG
  have HR := hideT' hr
  clear hr
  refine callsIn_of_wp_marks Tryd.func46 rfl trivial ?_ rfl
  simp only [Tryd.ntmps46, List.size_toArray, List.length_cons, List.length_nil, Nat.reduceAdd, Nat.reduceSub, Array.replicate_succ, Array.replicate_zero, List.push_toArray, List.append_toArray, List.nil_append, List.cons_append]
  gi_wp2
  refine ⟨trivial, ?_⟩
  gi_at_call 71
  refine (callsIn_wide.2 HG.out).mono ?_
  rintro e w ⟨rfl, hB0⟩
  have HB0 := hideT' hB0
  have HT : Hid (TrIn w P t b) := TrIn.below hB0 HT0.out
  clear hB0
  cases r with
  | false =>
    gi_wp2
    exact ⟨_, (by simp [results, Tryd.results46, go_sem]; rfl), ⟨.slice none 0 0, by rw [← HR.out], by rw [← HR.out]; exact World.ownsRow_nil _ _ _ _⟩, HB0.out⟩
  | true =>
  have h150 : t.sz ≤ 200 := (Lm.good_sz HR.out.symm).1
  gi_wp2
  refine ⟨trivial, ?_⟩
  gi_at_call 72
  refine (callsIn_wide.2 (walk_any b _)).mono ?_
  rintro e w3 ⟨rfl, hw3⟩
  have hs3 : w3.heap.size = w.heap.size + 2 := by rw [hw3]; simp
  have hB3 : Below w.heap.size w w3 := by rw [hw3]; exact ((Below.refl _ _).alloc (Nat.le_refl _) _).alloc (by simp) _
  have hI0 : TellI w [] (fun z => z = w.heap.size) w3 := by
    refine ⟨.slice none 0 0, fun z => ?_, ?_, World.ownsRow_nil _ _ _ _, hB3⟩
    · simp [Value.ownBlock]
    · rw [hw3]; exact RowAt.old (RowAt.new _ _ _) _
  have hcx : w3.cell? ⟨w.heap.size + 1, 0, none⟩ = some (.pointer (some ⟨b, 0, none⟩)) := by
    have hr : RowAt w3 (w.heap.size + 1) 75 #[.pointer (some ⟨b, 0, none⟩)] := by
      rw [hw3]
      have := RowAt.new (w.alloc (.cells #[.slice none 0 0] 37)) 75 #[.pointer (some ⟨b, 0, none⟩)]
      rwa [World.size_alloc] at this
    rw [cell_of_row _ _ _ _ _ _ hr]; rfl
  have HI0 := hideT' hI0
  have HB3 := hideT' hB3
  have HCX := hideT' hcx
  clear hw3 hI0 hB3 hcx
  simp only [World.size_alloc]
  gi_wp2
  refine range_own (gf := 82) (lb := #[.pointer (some ⟨w.heap.size + 1, 0, none⟩)]) (by rfl) (enters_of Tryd.func82 (by kernel_rfl) rfl) encS (fun x => rfl) _ _ _ (walk_seq (w.heap.size + 1) t b hs)
    (fun pre x V V' W hVV h => ⟨h.1, TrIn.mono (fun z hz _ hv => hz (hVV z hv)) h.2⟩)
    (TellI w) (fun s V A h => h.lt) (fun s V A B row h hg hr => h.step hg (fun r e => ⟨(hr r e).1, by have := (hr r e).2; omega⟩)) (fun z => z = w.heap.size) HI0.out ?need
    (fun pre x V c W => ∃ sb, c = tellAct w b sb x ∧ pre.length < t.sz ∧ TellI w pre V W ∧ RowAt W sb 112 #[.int .i64 (x.1.at_ : Int), .int .i64 x.1.up, .int .i64 (x.1.lam : Int)] ∧ ¬ V sb ∧ TrIn W (fun z => ¬ V z) x.1.t x.2) ?ax ?assign ?body ?done
  case need =>
    intro B V hg hV
    refine ⟨TrIn.keep (w := w) (P := P) (by have := hg.size; omega) (fun x _ hx => ?_) (fun x _ hx hv => ?_) HT.out, ?_⟩
    · rw [hg.block x (by omega) (by simp)]; exact HB3.out.block x hx
    · rcases hV x hv with h | h <;> omega
    · rw [World.cell?_of_block (w := w3) (a := ⟨w.heap.size + 1, 0, none⟩) (hg.block _ (by simp; omega) (by simp))]; exact HCX.out
  case ax =>
    rintro s x V c A B row ⟨sb, h1, hl, h2, h3, h4, h5⟩ hg hr
    exact ⟨sb, h1, hl, h2.step hg (fun r e => ⟨(hr r e).1.1, by have := (hr r e).1.2; omega⟩), TrIn.turn.row_same h3 hg (fun r e => (hr r e).2), h4, TrIn.turn hg (fun r e => (hr r e).2) h5⟩
  case assign =>
    intro l pre x V W K hNx hI hK
    have HI := hideT' hI
    have HK := hideT' hK
    have HNX := hideT' hNx
    unfold encS
    clear hI hK hNx
    gi_wp2
    have hal : Below W.heap.size W (W.alloc (.cells #[.int .i64 (x.1.at_ : Int), .int .i64 x.1.up, .int .i64 (x.1.lam : Int)] 112)) := (Below.refl _ _).alloc (Nat.le_refl _) _
    obtain ⟨⟨post, hpo⟩, hTx⟩ := HNX.out
    have hlen := congrArg List.length hpo
    rw [Lm.walk_len, List.length_append, List.length_map, List.length_cons] at hlen
    exact HK.out _ _ V ⟨W.heap.size, rfl, by omega, HI.out.step (row := none) ⟨hal.os, hal.tape, hal.output, hal.size, fun k hk _ => hal.block k hk⟩ (fun r e => by cases e), RowAt.new _ _ _, fun h => by have := HI.out.lt _ h; omega, TrIn.below hal hTx⟩ (MoreB.refl _ _) (KeepsB.below hal)
  case body =>
    rintro l pre x V c W ⟨sb, rfl, hpl, hI, hR, hVs, hTx⟩
    unfold tellAct
    obtain ⟨v, hV, hRv, hO, hB⟩ := hI
    obtain ⟨ov, cap, hvv⟩ := own_formT hO
    rw [spotsT_len] at hvv
    subst hvv
    obtain ⟨u2, d0, d1, d2⟩ := hTx.own3
    obtain ⟨kd, hkd⟩ : ∃ kd, kd = x.1.t.kd := ⟨_, rfl⟩
    obtain ⟨nm, hnm⟩ : ∃ nm, nm = x.1.t.nm := ⟨_, rfl⟩
    rw [← hkd] at d0
    rw [← hnm] at d1
    have HKN : Hid ((x.1.t.kd, x.1.t.nm, x.1.up) = (kd, nm, x.1.up)) := by unfold Hid; rw [hkd, hnm]
    have hxl := hTx.lt
    have hwz := hRv.lt
    have hsb := hR.lt
    have HXO : Hid ((Value.slice ov pre.length cap).ownBlock ≠ some x.2) := fun e => hTx.inP ((hV _).2 (.inr e))
    have HBO : Hid ((Value.slice ov pre.length cap).ownBlock ≠ some w.heap.size) := fun e => by have := (hO.lt _ e).1; omega
    have HSO : Hid ((Value.slice ov pre.length cap).ownBlock ≠ some sb) := fun e => hVs ((hV _).2 (.inr e))
    have HV := hideT' hV
    have HRV := hideT' hRv
    have HRS := hideT' hR
    have HO : Hid (W.ownsRow (w.heap.size + 1) 72 3 (.slice ov pre.length cap) pre.length ((spotsT pre).flatMap combL)) := by unfold Hid; have := hO; unfold OwnR at this; rw [spotsT_len] at this; exact this
    have HB := hideT' hB
    have HD := hideT' (And.intro d0 (And.intro d1 d2))
    have hS : RowAt W.drew w.heap.size 37 #[.slice ov pre.length cap] ∧ RowAt W.drew sb 112 #[.int .i64 (x.1.at_ : Int), .int .i64 x.1.up, .int .i64 (x.1.lam : Int)] ∧ W.drew.cell? ⟨x.2, 0, none⟩ = some (.int .i64 kd) ∧ W.drew.cell? ⟨x.2, 1, none⟩ = some (.int .i64 nm) ∧ W.drew.cell? ⟨x.2, 2, none⟩ = some (.int .i64 u2) := ⟨hRv, hR, d0, d1, d2⟩
    clear hkd hnm hTx hV hRv hR hO hB hVs d0 d1 d2
    gi_wp2
    refine lateR [11] (fun w' => RowAt w' w.heap.size 37 #[.slice ov pre.length cap] ∧ RowAt w' sb 112 #[.int .i64 (x.1.at_ : Int), .int .i64 x.1.up, .int .i64 (x.1.lam : Int)] ∧ w'.cell? ⟨x.2, 0, none⟩ = some (.int .i64 kd) ∧ w'.cell? ⟨x.2, 1, none⟩ = some (.int .i64 nm) ∧ w'.cell? ⟨x.2, 2, none⟩ = some (.int .i64 u2)) (by kernel_rfl) (by kernel_rfl) ?_
    refine late_val 0 (some 14) rfl rfl (by kernel_rfl) (by kernel_rfl) (by kernel_rfl) [10, 11] (by kernel_rfl) calm_put rfl (.slice ov pre.length cap) (fun w' h => by have c : w'.cell? ⟨w.heap.size, 0, none⟩ = some (.slice ov pre.length cap) := (by rw [cell_of_row w' _ _ _ _ _ h.1]; rfl); go_simp) hS ?_
    simp only [Act.put, List.setIfInBounds_toArray, List.set_cons_zero, List.set_cons_succ]
    refine late_val 1 (some 15) rfl rfl (by kernel_rfl) (by kernel_rfl) (by kernel_rfl) [2, 3, 4, 5, 8, 9, 10, 11] (by kernel_rfl) calm_put rfl (.pointer (some ⟨x.2, 0, none⟩)) (fun _ _ => by go_simp) hS ?_
    simp only [Act.put, List.setIfInBounds_toArray, List.set_cons_zero, List.set_cons_succ]
    refine late_val 2 (some 16) rfl rfl (by kernel_rfl) (by kernel_rfl) (by kernel_rfl) [3, 4, 5, 8, 9, 10, 11] (by kernel_rfl) calm_put rfl (.pointer (some ⟨x.2, 0, none⟩)) (fun _ _ => by go_simp) hS ?_
    simp only [Act.put, List.setIfInBounds_toArray, List.set_cons_zero, List.set_cons_succ]
    refine late_val 3 (some 17) rfl rfl (by kernel_rfl) (by kernel_rfl) (by kernel_rfl) [4, 5, 8, 9, 10, 11] (by kernel_rfl) calm_put rfl (.pointer (some ⟨x.2, 0, none⟩)) (fun _ _ => by go_simp) hS ?_
    simp only [Act.put, List.setIfInBounds_toArray, List.set_cons_zero, List.set_cons_succ]
    refine late_val 4 (some 18) rfl rfl (by kernel_rfl) (by kernel_rfl) (by kernel_rfl) [5, 8, 9, 10, 11] (by kernel_rfl) calm_put rfl (.agg #[.int .i64 kd, .int .i64 nm, .int .i64 u2]) (fun w' h => by obtain ⟨d0, d1, d2⟩ := h.2.2; go_simp) hS ?_
    simp only [Act.put, List.setIfInBounds_toArray, List.set_cons_zero, List.set_cons_succ]
    refine late_val 5 (some 19) rfl rfl (by kernel_rfl) (by kernel_rfl) (by kernel_rfl) [8, 9, 10, 11] (by kernel_rfl) calm_put rfl (.iface 72 (.agg #[.int .i64 kd, .int .i64 nm, .int .i64 u2])) (fun _ _ => by go_simp) hS ?_
    simp only [Act.put, List.setIfInBounds_toArray, List.set_cons_zero, List.set_cons_succ]
    refine late_val 6 (some 20) rfl rfl (by kernel_rfl) (by kernel_rfl) (by kernel_rfl) [7, 8, 9, 10, 11] (by kernel_rfl) calm_put rfl (.pointer (some ⟨sb, 1, none⟩)) (fun _ _ => by go_simp) hS ?_
    simp only [Act.put, List.setIfInBounds_toArray, List.set_cons_zero, List.set_cons_succ]
    refine late_val 7 (some 21) rfl rfl (by kernel_rfl) (by kernel_rfl) (by kernel_rfl) [8, 9, 10, 11] (by kernel_rfl) calm_put rfl (.int .i64 x.1.up) (fun w' h => by have c : w'.cell? ⟨sb, 1, none⟩ = some (.int .i64 x.1.up) := (by rw [cell_of_row w' _ _ _ _ _ h.2.1]; rfl); go_simp) hS ?_
    simp only [Act.put, List.setIfInBounds_toArray, List.set_cons_zero, List.set_cons_succ]
    refine late_call 8 (some 22) (by kernel_rfl) rfl rfl rfl 150 #[.agg #[.int .i64 kd, .int .i64 nm, .int .i64 u2], .int .i64 x.1.up] (by go_simp; rw [meth_under 313]; go_simp) _ (under_any kd nm u2 x.1.up W.drew) ?_
    rintro e w5 ⟨rfl, hW5⟩
    have hW5 : Below W.heap.size W w5 := ⟨hW5.os, hW5.tape, hW5.output, hW5.size, hW5.block⟩
    have hs5 := hW5.size
    have keepS : ∀ w', w5.heap.size ≤ w'.heap.size → (∀ b, b < W.heap.size → (Value.slice ov pre.length cap).ownBlock ≠ some b → w'.heap[b]? = W.heap[b]?) → (RowAt w' w.heap.size 37 #[.slice ov pre.length cap] ∧ RowAt w' sb 112 #[.int .i64 (x.1.at_ : Int), .int .i64 x.1.up, .int .i64 (x.1.lam : Int)] ∧ w'.cell? ⟨x.2, 0, none⟩ = some (.int .i64 kd) ∧ w'.cell? ⟨x.2, 1, none⟩ = some (.int .i64 nm) ∧ w'.cell? ⟨x.2, 2, none⟩ = some (.int .i64 u2)) := fun w' _ hk => by
      have c0 : ∀ i, w'.cell? ⟨x.2, i, none⟩ = W.cell? ⟨x.2, i, none⟩ := fun i => World.cell?_of_block (w := W) (a := ⟨x.2, i, none⟩) (hk x.2 hxl HXO.out)
      exact ⟨by unfold RowAt; rw [hk _ hwz HBO.out]; exact HRV.out, by unfold RowAt; rw [hk _ hsb HSO.out]; exact HRS.out, by rw [c0]; exact HD.out.1, by rw [c0]; exact HD.out.2.1, by rw [c0]; exact HD.out.2.2⟩
    have hS1 := keepS w5 (Nat.le_refl _) (fun b hb _ => hW5.block b hb)
    refine ⟨_, rfl, .inr hS1, ?_⟩
    simp only [Act.put, List.setIfInBounds_toArray, List.set_cons_zero, List.set_cons_succ]
    have hS2 := keepS (w5.alloc (.cells #[.int .i64 kd, .int .i64 nm, .int .i64 x.1.up] 72)) (by simp) (fun b hb _ => by rw [Below.heap_alloc _ _ _ (by omega)]; exact hW5.block b hb)
    refine late_ready 9 (some 23) (by kernel_rfl) rfl rfl rfl (.slice (some ⟨w5.heap.size, 0, none⟩) 1 1) (w5.alloc (.cells #[.int .i64 kd, .int .i64 nm, .int .i64 x.1.up] 72)) (by go_simp) (.inr hS2) ?_
    simp only [Act.put, List.setIfInBounds_toArray, List.set_cons_zero, List.set_cons_succ]
    have hO5 : w5.ownsRow (w.heap.size + 1) 72 3 (.slice ov pre.length cap) pre.length ((spotsT pre).flatMap combL) := own_keep HO.out (fun b hb => hW5.block b (HO.out.lt b hb).2)
    obtain ⟨i0, hi, hzz0, hzz1, hzz2⟩ := info_parts info_comb
    refine late_one 10 (by kernel_rfl) rfl rfl fun K hK => ?_
    refine append_own3_wp _ _ _ 37 rfl (w.heap.size + 1) 72 i0 (.agg #[.int .i64 0, .int .i64 0, .int .i64 0]) 3 24 Tryd.underlying37 hi hzz0 hzz1 hzz2 rfl (by decide) (.slice ov pre.length cap) pre.length _ rfl (hO5.alloc _) ⟨w5.heap.size, 0, none⟩ 1 1 (combL (kd, nm, x.1.up)) rfl rfl (comb_cells w5 (kd, nm, x.1.up)) (combL_one _) (by omega) (by unfold maxLen; omega) (by omega) (by simp; omega) ?_
    intro v6 w6 hv6 hg6 hb6
    have hs6 := hg6.size
    simp only [World.size_alloc] at hs6 hb6
    have hgx : ∀ b, b < W.heap.size → (Value.slice ov pre.length cap).ownBlock ≠ some b → w6.heap[b]? = W.heap[b]? := fun b hb hbo => by
      rw [hg6.block b (by simp; omega) (fun e => hbo e.symm), Below.heap_alloc _ _ _ (by omega)]; exact hW5.block b hb
    have hS6 := keepS w6 (by omega) hgx
    refine hK.out _ _ (.inr hS6) ?_
    simp only [Act.put, List.setIfInBounds_toArray]
    obtain ⟨o6, c6, rfl⟩ := own_formT hv6
    refine late_one 11 (by kernel_rfl) rfl rfl fun K8 hK8 => ?_
    refine store_at_wp 37 _ _ rfl rfl w.heap.size 0 (.slice o6 (pre.length + 1) c6) rfl rfl one_slterm rfl 37 #[.slice ov pre.length cap] hS6.1 (show 0 < 1 by omega) ?_
    intro w7 hR7 hg7 hs7
    refine hK8.out _ _ (.inl ⟨11, by simp, rfl⟩) ?_
    refine late_done (by kernel_rfl) ?_ _
    refine Calm.normal ?_
    have hob : ∀ z, z < W.heap.size → ¬ V z → w7.heap[z]? = W.heap[z]? := fun z hz hv => by
      rw [hg7.block z (by omega) (by intro e; injection e with e; exact hv ((HV.out z).2 (.inl e)))]
      exact hgx z hz (fun e => hv ((HV.out z).2 (.inr e)))
    have HFIN : Hid (∃ V', TellI w (pre ++ [x]) V' w7 ∧ MoreB V V' W ∧ KeepsB V W w7) := by
      refine ⟨fun z => z = w.heap.size ∨ (Value.slice o6 (pre.length + 1) c6).ownBlock = some z, ⟨_, fun z => Iff.rfl, hR7, ?_, ?_⟩, ?_, ⟨by omega, hob⟩⟩
      · unfold OwnR
        rw [spotsT_app, List.length_append, List.flatMap_append, spotsT_len, HKN.out]
        exact own_keep hv6 (fun b hb => hg7.block b (hv6.lt b hb).2 (by intro e; injection e with e; have := (hv6.lt b hb).1; omega))
      · refine HB.out.trans ⟨hg7.os.trans (hg6.os.trans hW5.os), hg7.tape.trans (hg6.tape.trans hW5.tape), hg7.output.trans (hg6.output.trans hW5.output), by omega, fun j hj => ?_⟩
        exact hob j (by omega) (fun h => by
          rcases (HV.out j).1 h with e | e
          · omega
          · have := (HO.out.lt j e).1; omega)
      · intro z hz
        rcases hz with rfl | hz
        · exact .inl ((HV.out _).2 (.inl rfl))
        · rcases hb6 with h | h
          · exact .inl ((HV.out z).2 (.inr (by rw [← h]; exact hz)))
          · rw [h] at hz
            injection hz with hz
            exact .inr (by omega)
    exact HFIN.out
  case done =>
    rintro D ys V W hD hS ⟨v, hV, hRv, hO, hB⟩ hVD hK
    obtain ⟨ov, cap, hvv⟩ := own_formT hO
    subst hvv
    have hcv : W.cell? ⟨w.heap.size, 0, none⟩ = some (.slice ov (spotsT ys).length cap) := by rw [cell_of_row _ _ _ _ _ _ hRv]; rfl
    have HOW : Hid (W.ownsRow w0.heap.size 72 3 (.slice ov (spotsT ys).length cap) (tri (t.flat 0 (-1))).length ((tri (t.flat 0 (-1))).flatMap combL)) := by
      unfold Hid
      rw [← spotsT_all hS]
      exact ⟨hO.1, hO.2.imp id fun ⟨g, cap, cur, h1, h2, h3⟩ => ⟨g, cap, cur, h1, by have := HB0.out.size; omega, h3⟩⟩
    have HW : Hid (Below w0.heap.size w0 W) := HB0.out.trans (hB.mono HB0.out.size)
    have HKD := hideT' hK
    have hs0 := HB0.out.size
    clear hO hB hK hRv
    gi_wp2
    refine leave_marks (v := .tuple #[.slice ov (spotsT ys).length cap, .bool true]) HKD.out (by simp [results, Tryd.results46, go_sem]) ⟨⟨_, by rw [← HR.out], ?_⟩, below_put HW.out (by omega) HW.out.size⟩
    rw [← HR.out, if_pos rfl]
    exact ⟨HOW.out.1, HOW.out.2.imp id fun ⟨g, cap, cur, h1, h2, h3, h4⟩ => ⟨g, cap, cur, h1, h2, row_put h3 HKD.out rfl, h4⟩⟩
end Go.Proofs.YtgolfbjfopoeeaaDoor.CB

/-
  What spec.lcParts answers.
-/
namespace Go.Proofs.YtgolfbjfopoeeaaDoor.CB
open Go.RowKit BL
set_option linter.unusedVariables false

def natsI (p : List Nat) : List Int := p.map fun (j : Nat) => (j : Int)
theorem natsI_len (p : List Nat) : (natsI p).length = p.length := by simp [natsI]
theorem natsI_app (p q : List Nat) : natsI (p ++ q) = natsI p ++ natsI q := by simp [natsI]
theorem partsTo_first (l : List Nd) (k : Nat) : partsTo l k (k + 1) = [] := by
  unfold partsTo
  rw [List.filter_eq_nil_iff]
  intro j hj
  have := List.mem_range.1 hj
  simp; omega
theorem oneT_cell (v : Int) : ∀ u ∈ [Value.int .i64 v], u.oneCell' = true := fun u hu => by simp at hu; subst hu; rfl
theorem own_formT {w : World} {B n s : Nat} {T : TypeId} {v : Value} {xs : List Value} (h : w.ownsRow B T s v n xs) : ∃ o cap, v = .slice o n cap := by
  rcases h.2 with ⟨h1, h0⟩ | ⟨g, cap, cur, h1, _⟩
  · exact ⟨none, 0, by rw [h1, h0]⟩
  · exact ⟨_, _, h1⟩
theorem partsTo_le (l : List Nd) (k i : Nat) : (partsTo l k i).length ≤ i := by
  unfold partsTo
  exact Nat.le_trans (List.length_filter_le _ _) (by simp)

set_option maxHeartbeats 4000000 in
set_option maxRecDepth 100000 in
theorem lcParts_any (l : List Nd) (k : Nat) (v : Value) (w : World) (hv : NdIn w v l) (hl : l.length ≤ 1048576) (hk : k < l.length) :
    Calls Tryd.prog 63 #[v, .int .i64 (k : Int)] w fun e w' => (∃ u, e = .returned u ∧ OwnR w' w.heap.size u 3 intL 1 (natsI (partsTo l k l.length))) ∧ Below w.heap.size w w' := by
  have HV := hideT' hv
  obtain ⟨o, cap, rfl⟩ := hv.len
  clear hv
  obtain ⟨i0, hi, hz0, hz1, hz2⟩ := info_parts info_int
  obtain ⟨n, hn⟩ : ∃ n, n = l.length := ⟨_, rfl⟩
  have HNN := hideT' hn
  rw [← hn] at hl hk ⊢
  clear hn
  go_enter Tryd.func63, Tryd.ntmps63
  go_wp2_with fail
  go_loopg [5, 6] (n - (k + 1)) (fun g x i wr => ∃ j : Nat, g = n - j ∧ k < j ∧ j ≤ n ∧ i = .int .i64 (j : Int) ∧ OwnR wr w.heap.size x 3 intL 1 (natsI (partsTo l k j)) ∧ Below w.heap.size w wr)
  case atStart => exact ⟨k + 1, rfl, by omega, by omega, by go_num, by rw [partsTo_first]; exact World.ownsRow_nil _ _ _ _, Below.refl _ _⟩
  case round =>
    obtain ⟨j, hg, hkj, hj, rfl, hO, hW⟩ := hrel
    obtain ⟨o2, cap2, hv2⟩ := own_formT hO
    have HO := hideT' hO
    subst hv2
    by_cases hlt : (j : Int) < (n : Int)
    · obtain ⟨nd, hnd⟩ : ∃ nd, nd = ndAt l j := ⟨_, rfl⟩
      obtain ⟨b, rfl, hb, c0, c1, c2⟩ := (HV.out.below hW).cells (by have := HNN.out; omega) hnd
      have hsucc := partsTo_succ l k j
      have hup : upN l j = nd.u := by unfold upN; rw [hnd]
      rw [hup] at hsucc
      have hpl := partsTo_le l k j
      rw [← natsI_len] at hpl
      clear hnd hup hO
      obtain ⟨kd, nm, u⟩ := nd
      simp only at c2 hsucc
      by_cases hu : u = (k : Int)
      · have HS : Hid (natsI (partsTo l k (j + 1)) = natsI (partsTo l k j) ++ [(j : Int)]) := by unfold Hid; rw [hsucc, decide_eq_true hkj, decide_eq_true hu]; simp [natsI]
        clear hsucc c0 c1
        go_wp2_with (at_builtin; refine wpList_append_own _ rfl _ _ 87 rfl w.heap.size 3 i0 (.int .i64 0) 1 8 Tryd.underlying87 hi hz0 hz1 hz2 rfl (by decide) _ _ _ rfl (HO.out.alloc _) ⟨wr.heap.size, 0, none⟩ 1 1 [.int .i64 (j : Int)] rfl rfl (cell_one_new _ _ _) (oneT_cell _) (by unfold maxLen; omega) (by omega) (by have := hW.size; simp; omega) ?_; intro v' w4 hown' hgrow _)
        have hgb : ∀ g, (Value.slice o2 (natsI (partsTo l k j)).length cap2).ownBlock = some g → w.heap.size ≤ g := fun g e => (HO.out.lt g e).1
        go_roundg (n - (j + 1))
        case measure => omega
        case rel =>
          refine ⟨j + 1, rfl, by omega, by omega, by go_num, ?_, ?_⟩
          · rw [HS.out]
            unfold OwnR
            rw [List.length_append, List.flatMap_append]
            exact hown'
          · exact (hW.alloc hW.size _).grown hgrow (by have := hW.size; simp; omega) (fun k hk => hgb _ hk)
      · have HS : Hid (natsI (partsTo l k (j + 1)) = natsI (partsTo l k j)) := by unfold Hid; rw [hsucc, decide_eq_false hu]; simp
        clear hsucc c0 c1
        go_wp2
        go_roundg (n - (j + 1))
        case measure => omega
        case rel => exact ⟨j + 1, rfl, by omega, by omega, by go_num, by rw [HS.out]; exact HO.out, hW⟩
    · have hjn : j = n := by omega
      subst hjn
      clear hO
      go_wp2
      go_ret
      exact ⟨⟨_, rfl, HO.out⟩, hW⟩
end Go.Proofs.YtgolfbjfopoeeaaDoor.CB

/-
  The model's trees in memory.
-/
namespace Go.Proofs.YtgolfbjfopoeeaaDoor.CB
open Go.RowKit BL
set_option linter.unusedVariables false

theorem zero_lcT : (∀ w, (zeroValue 70).run Tryd.prog w = .ok (.agg #[.int .i64 0, .int .i64 0, .slice none 0 0]) w) ∧ (Tryd.prog.info? 70).map (·.size) = some 3 := zero_of_info (by kernel_rfl)
theorem info_lcT : (Tryd.prog.info? 70).map (fun i => (i.zero, i.size, i.bytes)) = some (some (.agg #[.int .i64 0, .int .i64 0, .slice none 0 0]), 3, 40) := by kernel_rfl
theorem one_sllc : (Tryd.prog.info? 68).map (·.size) = some 1 := by kernel_rfl
/-- The three cells of a tree. -/
def lcL (k n : Int) (z : Value) : List Value := [.int .i64 k, .int .i64 n, z]
def lcC (k n : Int) (z : Value) : Array Value := #[.int .i64 k, .int .i64 n, z]
theorem lcL_one (k n : Int) (z : Value) (hz : z.oneCell' = true) : ∀ u ∈ lcL k n z, u.oneCell' = true := by
  intro u hu
  simp [lcL] at hu
  rcases hu with rfl | rfl | rfl
  · rfl
  · rfl
  · exact hz
theorem lcC_one (k n : Int) (z : Value) (hz : z.oneCell' = true) : (lcC k n z).all (·.oneCell') = true := Array.all_eq_true_iff_forall_mem.2 (fun v hv => lcL_one k n z hz v (by simpa [lcC, lcL] using hv))
/-- The parts of a tree, in blocks of P alone: z is the slice of its parts. -/
def LcIn (w : World) (P : Nat → Prop) : Lm → Value → Prop
  | .var n, z => ∃ o c, z = .slice o 0 c
  | .app s t, z => ∃ g c z1 z2, z = .slice (some ⟨g, 0, none⟩) 2 c ∧ (g < w.heap.size ∧ P g) ∧ (w.cell? ⟨g, 0, none⟩ = some (.int .i64 s.kd) ∧ w.cell? ⟨g, 1, none⟩ = some (.int .i64 s.nm) ∧ w.cell? ⟨g, 2, none⟩ = some z1) ∧
      (w.cell? ⟨g, 3, none⟩ = some (.int .i64 t.kd) ∧ w.cell? ⟨g, 4, none⟩ = some (.int .i64 t.nm) ∧ w.cell? ⟨g, 5, none⟩ = some z2) ∧ LcIn w P s z1 ∧ LcIn w P t z2
theorem LcIn.form {w : World} {P : Nat → Prop} {t : Lm} {z : Value} (h : LcIn w P t z) : ∃ o c, z = .slice o t.kids.length c := by
  cases t with
  | var n => exact h
  | app s t => obtain ⟨g, c, z1, z2, h, _⟩ := h; exact ⟨_, c, h⟩
theorem LcIn.one {w : World} {P : Nat → Prop} {t : Lm} {z : Value} (h : LcIn w P t z) : z.oneCell' = true := by
  obtain ⟨o, c, rfl⟩ := h.form; rfl
theorem LcIn.keep {w w' : World} {P Q : Nat → Prop} (hw : w.heap.size ≤ w'.heap.size) (hk : ∀ x, P x → x < w.heap.size → w'.heap[x]? = w.heap[x]?) (hQ : ∀ x, P x → x < w.heap.size → Q x) : ∀ {t : Lm} {z : Value}, LcIn w P t z → LcIn w' Q t z
  | .var n, z, h => h
  | .app s t, z, h => by
    obtain ⟨g, c, z1, z2, e, hg, ⟨c0, c1, c2⟩, ⟨c3, c4, c5⟩, h1, h2⟩ := h
    have hc : ∀ i, w'.cell? ⟨g, i, none⟩ = w.cell? ⟨g, i, none⟩ := fun i => World.cell?_of_block (w := w) (a := ⟨g, i, none⟩) (hk _ hg.2 hg.1)
    exact ⟨g, c, z1, z2, e, ⟨Nat.lt_of_lt_of_le hg.1 hw, hQ _ hg.2 hg.1⟩, ⟨by rw [hc]; exact c0, by rw [hc]; exact c1, by rw [hc]; exact c2⟩, ⟨by rw [hc]; exact c3, by rw [hc]; exact c4, by rw [hc]; exact c5⟩, LcIn.keep hw hk hQ h1, LcIn.keep hw hk hQ h2⟩
theorem LcIn.below {w w' : World} {P : Nat → Prop} (hB : Below w.heap.size w w') {t : Lm} {z : Value} (h : LcIn w P t z) : LcIn w' P t z := LcIn.keep hB.size (fun x _ hx => hB.block x hx) (fun _ h _ => h) h
theorem LcIn.mono {w : World} {P Q : Nat → Prop} (hQ : ∀ x, P x → x < w.heap.size → Q x) {t : Lm} {z : Value} (h : LcIn w P t z) : LcIn w Q t z := LcIn.keep (Nat.le_refl _) (fun _ _ _ => rfl) hQ h
/-- The parts one by one. -/
theorem LcIn.parts {w : World} {P : Nat → Prop} {t : Lm} {z : Value} (h : LcIn w P t z) : ∃ o c, z = .slice o t.kids.length c ∧ ∀ i s, t.kids[i]? = some s → ∃ g z1, o = some ⟨g, 0, none⟩ ∧ (g < w.heap.size ∧ P g) ∧ (w.cell? ⟨g, i * 3, none⟩ = some (.int .i64 s.kd) ∧ w.cell? ⟨g, i * 3 + 1, none⟩ = some (.int .i64 s.nm) ∧ w.cell? ⟨g, i * 3 + 2, none⟩ = some z1) ∧ LcIn w P s z1 := by
  cases t with
  | var n =>
    obtain ⟨o, c, rfl⟩ := h
    exact ⟨o, c, rfl, fun i s hi => by simp [Lm.kids] at hi⟩
  | app s t =>
    obtain ⟨g, c, z1, z2, rfl, hg, hc, hc2, h1, h2⟩ := h
    refine ⟨_, c, rfl, fun i s hi => ?_⟩
    match i, hi with
    | 0, hi => cases hi; exact ⟨g, z1, rfl, hg, hc, h1⟩
    | 1, hi => cases hi; exact ⟨g, z2, rfl, hg, hc2, h2⟩
    | i + 2, hi => simp [Lm.kids] at hi
/-- Trees one behind the other: their cells. -/
def LcsIn (w : World) (P : Nat → Prop) : List Lm → List Value → Prop
  | [], ys => ys = []
  | s :: ss, ys => ∃ z zs, ys = lcL s.kd s.nm z ++ zs ∧ LcIn w P s z ∧ LcsIn w P ss zs
theorem LcsIn.keep {w w' : World} {P Q : Nat → Prop} (hw : w.heap.size ≤ w'.heap.size) (hk : ∀ x, P x → x < w.heap.size → w'.heap[x]? = w.heap[x]?) (hQ : ∀ x, P x → x < w.heap.size → Q x) : ∀ {ss : List Lm} {ys : List Value}, LcsIn w P ss ys → LcsIn w' Q ss ys
  | [], ys, h => h
  | s :: ss, ys, h => by
    obtain ⟨z, zs, e, h1, h2⟩ := h
    exact ⟨z, zs, e, LcIn.keep hw hk hQ h1, LcsIn.keep hw hk hQ h2⟩
theorem LcsIn.snoc {w : World} {P : Nat → Prop} {t : Lm} {z : Value} (ht : LcIn w P t z) : ∀ {ss : List Lm} {ys : List Value}, LcsIn w P ss ys → LcsIn w P (ss ++ [t]) (ys ++ lcL t.kd t.nm z)
  | [], ys, h => by
    rw [LcsIn] at h
    subst h
    exact ⟨z, [], by simp, ht, rfl⟩
  | s :: ss, ys, h => by
    obtain ⟨z', zs, e, h1, h2⟩ := h
    exact ⟨z', zs ++ lcL t.kd t.nm z, by rw [e, List.append_assoc], h1, LcsIn.snoc ht h2⟩
theorem LcsIn.len {w : World} {P : Nat → Prop} : ∀ {ss : List Lm} {ys : List Value}, LcsIn w P ss ys → ys.length = 3 * ss.length
  | [], ys, h => by rw [LcsIn] at h; subst h; rfl
  | s :: ss, ys, h => by
    obtain ⟨z', zs, rfl, h1, h2⟩ := h
    rw [List.length_append, LcsIn.len h2]
    simp [lcL]; omega
/-- A tree whose parts lie in an own row. -/
theorem LcIn.of_row {w : World} {P : Nat → Prop} {t : Lm} {z : Value} {B : Nat} {ys : List Value} (h : w.ownsRow B 70 3 z t.kids.length ys) (hy : LcsIn w P t.kids ys) (hP : ∀ g, z.ownBlock = some g → P g) : LcIn w P t z := by
  rcases h.2 with ⟨rfl, h0⟩ | ⟨g, cap, cur, rfl, hBg, hg, hr⟩
  · cases t with
    | var n => exact ⟨none, 0, rfl⟩
    | app s t => simp [Lm.kids] at h0
  · have hgl : g < w.heap.size := (Array.getElem?_eq_some_iff.1 hg).1
    have hgP : P g := hP g rfl
    have hcell : ∀ i, i < t.kids.length * 3 → w.cell? ⟨g, i, none⟩ = ys[i]? := fun i hi => World.ownsRow.cellAt h i hi
    cases t with
    | var n => exact ⟨_, _, rfl⟩
    | app s t =>
      obtain ⟨z1, zs, rfl, h1, h2⟩ := hy
      obtain ⟨z2, zs2, rfl, h3, h4⟩ := h2
      refine ⟨g, cap, z1, z2, rfl, ⟨hgl, hgP⟩, ⟨?_, ?_, ?_⟩, ⟨?_, ?_, ?_⟩, h1, h3⟩
      · rw [hcell 0 (by simp [Lm.kids])]; rfl
      · rw [hcell 1 (by simp [Lm.kids])]; rfl
      · rw [hcell 2 (by simp [Lm.kids])]; rfl
      · rw [hcell 3 (by simp [Lm.kids])]; rfl
      · rw [hcell 4 (by simp [Lm.kids])]; rfl
      · rw [hcell 5 (by simp [Lm.kids])]; rfl
end Go.Proofs.YtgolfbjfopoeeaaDoor.CB

/-
  What lcTree of the model answers.
-/
namespace Go.Proofs.YtgolfbjfopoeeaaDoor.CB
open Go.RowKit BL
set_option linter.unusedVariables false

theorem lc_cells (w : World) (k n : Int) (z : Value) : ∀ j u, (lcL k n z)[j]? = some u → (w.alloc (.cells (lcC k n z) 70)).cell? ((⟨w.heap.size, 0, none⟩ : Addr).add j) = some u := fun j u hu => by
  have h1 : (w.alloc (.cells (lcC k n z) 70)).cell? ⟨w.heap.size, 0 + j, none⟩ = (lcC k n z)[0 + j]? := by rw [cell_of_row _ _ _ _ _ _ (RowAt.new w 70 (lcC k n z))]
  have h2 : (⟨w.heap.size, 0, none⟩ : Addr).add j = ⟨w.heap.size, 0 + j, none⟩ := by unfold Addr.add; split <;> simp_all
  rw [h2, h1, Nat.zero_add]
  simpa [lcC, lcL] using hu
theorem kid_seg {l : List Nd} {t : Lm} {a : Nat} {up : Int} (h : Seg l t a up) (hs : Shut l a t.sz) : ∀ (i : Nat) (s : Lm), t.kids[i]? = some s → ∃ p, (t.kidsAt a)[i]? = some p ∧ Seg l s p (a : Int) ∧ Shut l p s.sz := by
  intro i s hi
  cases t with
  | var n => simp [Lm.kids] at hi
  | app p q =>
    match i, hi with
    | 0, hi => cases hi; exact ⟨a + 1, rfl, h.2.1, hs.app1 h⟩
    | 1, hi => cases hi; exact ⟨a + 1 + p.sz, rfl, h.2.2, hs.app2 h⟩
    | i + 2, hi => simp [Lm.kids] at hi
theorem kidsAt_len (t : Lm) (a : Nat) : (t.kidsAt a).length = t.kids.length := by cases t <;> rfl
/-- What lcTree does. -/
def LcTreeC (N : Nat) : Prop := ∀ (t : Lm), t.sz ≤ N → ∀ (l : List Nd) (a : Nat) (up : Int) (v : Value) (w : World), l.length ≤ 200 → NdIn w v l → Seg l t a up → Shut l a t.sz →
    Calls Tryd.prog 38 #[v, .int .i64 (a : Int)] w fun e w' => (∃ z, e = .returned (.agg (lcC t.kd t.nm z)) ∧ LcIn w' (fun x => w.heap.size ≤ x) t z) ∧ Below w.heap.size w w'

set_option maxHeartbeats 8000000 in
set_option maxRecDepth 100000 in
theorem lcTree_step (N : Nat) (IH : ∀ n, n < N → LcTreeC n) : LcTreeC N := by
  intro t ht l a up v w hl hv hseg hsh
  have HIH := hideT' IH
  have HV := hideT' hv
  have HSEG := hideT' (And.intro hseg hsh)
  have HTN := hideT' ht
  obtain ⟨o, cap, rfl⟩ := hv.len
  have hal := hseg.lt
  have hnd := hseg.nd
  obtain ⟨g, rfl, hg, c0, c1, c2⟩ := hv.cells hal hnd.symm
  simp only at c0 c1 c2
  have HPT : Hid (partsTo l a l.length = t.kidsAt a) := hseg.parts hsh
  obtain ⟨kd, hkd⟩ : ∃ kd, kd = t.kd := ⟨_, rfl⟩
  obtain ⟨nm, hnm⟩ : ∃ nm, nm = t.nm := ⟨_, rfl⟩
  rw [← hkd] at c0 ⊢
  rw [← hnm] at c1 ⊢
  have HKN := hideT' (And.intro hkd hnm)
  obtain ⟨n, hn⟩ : ∃ n, n = l.length := ⟨_, rfl⟩
  have HNN := hideT' hn
  rw [← hn] at hl hal ⊢
  have hz := zero_lcT.1
  have han : (a : Int) < (n : Int) := by omega
  clear IH hv hseg hsh ht hnd hkd hnm hn c2
  have HCS : Hid (∀ w', Below w.heap.size w w' → w'.cell? ⟨g, a * 3, none⟩ = some (.int .i64 kd) ∧ w'.cell? ⟨g, a * 3 + 1, none⟩ = some (.int .i64 nm)) := fun w' h => ⟨by rw [h.cell (p := ⟨g, a * 3, none⟩) hg]; exact c0, by rw [h.cell (p := ⟨g, a * 3 + 1, none⟩) hg]; exact c1⟩
  clear c0 c1
  go_enter Tryd.func38, Tryd.ntmps38
  go_wp2_with fail
  obtain ⟨W, hWd⟩ : ∃ W, W = w.alloc (.cells #[.int .i64 0, .int .i64 0, .slice none 0 0] 70) := ⟨_, rfl⟩
  have hWs : W.heap.size = w.heap.size + 1 := by rw [hWd]; simp
  have hR0 : RowAt W w.heap.size 70 #[.int .i64 0, .int .i64 0, .slice none 0 0] := by rw [hWd]; exact RowAt.new w _ _
  have hW0 : Below w.heap.size w W := by rw [hWd]; exact (Below.refl _ _).alloc (Nat.le_refl _) _
  rw [← hWd]
  clear hWd
  refine held_begin (fun w' => Below w.heap.size w w') (by kernel_rfl) ?_
  have hS : Below w.heap.size w W.drew := hW0.drew
  -- THE REGION
  refine held_valS 0 (some 8) rfl rfl (by kernel_rfl) (by kernel_rfl) (by kernel_rfl) noPanic_put rfl (.slice (some ⟨g, 0, none⟩) n cap) (fun _ _ => by go_simp) hS ?_
  simp only [Act.put, List.setIfInBounds_toArray, List.set_cons_zero, List.set_cons_succ]
  refine held_valS 1 (some 9) rfl rfl (by kernel_rfl) (by kernel_rfl) (by kernel_rfl) noPanic_put rfl (.int .i64 (a : Int)) (fun _ _ => by go_simp) hS ?_
  simp only [Act.put, List.setIfInBounds_toArray, List.set_cons_zero, List.set_cons_succ]
  refine held_valS 2 (some 10) rfl rfl (by kernel_rfl) (by kernel_rfl) (by kernel_rfl) noPanic_put rfl (.pointer (some ⟨g, a * 3, none⟩)) (fun _ _ => by go_simp) hS ?_
  simp only [Act.put, List.setIfInBounds_toArray, List.set_cons_zero, List.set_cons_succ]
  refine held_valS 3 (some 11) rfl rfl (by kernel_rfl) (by kernel_rfl) (by kernel_rfl) noPanic_put rfl (.pointer (some ⟨g, a * 3, none⟩)) (fun _ _ => by go_simp) hS ?_
  simp only [Act.put, List.setIfInBounds_toArray, List.set_cons_zero, List.set_cons_succ]
  refine held_valS 4 (some 12) rfl rfl (by kernel_rfl) (by kernel_rfl) (by kernel_rfl) noPanic_put rfl (.int .i64 kd) (fun w' h => by have c := (HCS.out w' h).1; go_simp) hS ?_
  simp only [Act.put, List.setIfInBounds_toArray, List.set_cons_zero, List.set_cons_succ]
  refine held_valS 5 (some 13) rfl rfl (by kernel_rfl) (by kernel_rfl) (by kernel_rfl) noPanic_put rfl (.slice (some ⟨g, 0, none⟩) n cap) (fun _ _ => by go_simp) hS ?_
  simp only [Act.put, List.setIfInBounds_toArray, List.set_cons_zero, List.set_cons_succ]
  refine held_valS 6 (some 14) rfl rfl (by kernel_rfl) (by kernel_rfl) (by kernel_rfl) noPanic_put rfl (.int .i64 (a : Int)) (fun _ _ => by go_simp) hS ?_
  simp only [Act.put, List.setIfInBounds_toArray, List.set_cons_zero, List.set_cons_succ]
  refine held_valS 7 (some 15) rfl rfl (by kernel_rfl) (by kernel_rfl) (by kernel_rfl) noPanic_put rfl (.pointer (some ⟨g, a * 3, none⟩)) (fun _ _ => by go_simp) hS ?_
  simp only [Act.put, List.setIfInBounds_toArray, List.set_cons_zero, List.set_cons_succ]
  refine held_valS 8 (some 16) rfl rfl (by kernel_rfl) (by kernel_rfl) (by kernel_rfl) noPanic_put rfl (.pointer (some ⟨g, a * 3 + 1, none⟩)) (fun _ _ => by go_simp) hS ?_
  simp only [Act.put, List.setIfInBounds_toArray, List.set_cons_zero, List.set_cons_succ]
  refine held_valS 9 (some 17) rfl rfl (by kernel_rfl) (by kernel_rfl) (by kernel_rfl) noPanic_put rfl (.int .i64 nm) (fun w' h => by have c := (HCS.out w' h).2; go_simp) hS ?_
  simp only [Act.put, List.setIfInBounds_toArray, List.set_cons_zero, List.set_cons_succ]
  refine held_valS 10 (some 18) rfl rfl (by kernel_rfl) (by kernel_rfl) (by kernel_rfl) noPanic_put rfl (.agg (lcC kd nm (.slice none 0 0))) (fun _ _ => by unfold lcC; go_simp) hS ?_
  simp only [Act.put, List.setIfInBounds_toArray, List.set_cons_zero, List.set_cons_succ]
  have hS5 : Below w.heap.size w (W.drew.alloc (.cells #[.int .i64 0, .int .i64 0, .slice none 0 0] 70)) := hS.alloc (by simp; omega) _
  refine held_ready 11 (some 5) (by kernel_rfl) rfl rfl rfl (.pointer (some ⟨W.heap.size, 0, none⟩)) (W.drew.alloc (.cells #[.int .i64 0, .int .i64 0, .slice none 0 0] 70)) (by go_simp) hS5 ?_
  simp only [Act.put, List.setIfInBounds_toArray, List.set_cons_zero, List.set_cons_succ]
  refine held_one 12 (by kernel_rfl) rfl rfl ?_
  intro K hK
  refine store_3_wp 70 (.tmp 5) (.tmp 18) rfl rfl zero_lcT.2 W.heap.size (lcC kd nm (.slice none 0 0)) rfl (lcC_one _ _ _ rfl) rfl rfl #[.int .i64 0, .int .i64 0, .slice none 0 0] rfl (RowAt.new W.drew _ _) ?_
  intro w2 hR2 hg2 hs2
  have hs2' : w2.heap.size = w.heap.size + 1 + 1 := by rw [hs2]; simp; omega
  have hW2 : Below w.heap.size w w2 := hS5.grown hg2 (by simp; omega) (by intro k hk; cases hk; omega)
  have hR02 : RowAt w2 w.heap.size 70 #[.int .i64 0, .int .i64 0, .slice none 0 0] := RowAt.grown (RowAt.old (w := W.drew) hR0 _) hg2 (by intro e; injection e; omega)
  have hR2' : RowAt w2 (w.heap.size + 1) 70 (lcC kd nm (.slice none 0 0)) := by rw [← hWs]; exact hR2
  refine hK.out _ _ hW2 ?_
  refine wpAnyH_done (by kernel_rfl) ?_ _
  refine NoPanic.normal ?_
  have HPC := hideT' (lcParts_any l a (.slice (some ⟨g, 0, none⟩) n cap) w2 (by rw [HNN.out]; exact HV.out.below hW2) (by have := HNN.out; omega) (by have := HNN.out; omega))
  rw [hWs]
  clear hK hg2 hs2 hS hS5 hR0 hR2 hW0
  go_wp2_with fail
  refine HPC.out.mono ?_
  rintro e w3 ⟨⟨uu, rfl, hO⟩, hW3⟩
  rw [HPT.out] at hO
  obtain ⟨m, hm⟩ : ∃ m, m = t.kids.length := ⟨_, rfl⟩
  have hm2 : m ≤ 2 := by rw [hm]; cases t <;> simp [Lm.kids]
  obtain ⟨ou, cu, huu⟩ : ∃ o c, uu = .slice o m c := by
    obtain ⟨o, c, e⟩ := own_formT hO
    exact ⟨o, c, by rw [e, natsI_len, kidsAt_len, hm]⟩
  subst huu
  have HM := hideT' hm
  have HU := hideT' (OwnR.inR (l := natsI (t.kidsAt a)) hO intL_len)
  have HUB : Hid (∀ b, (Value.slice ou m cu).ownBlock = some b → w2.heap.size ≤ b ∧ b < w3.heap.size) := fun b e => hO.lt b e
  have hs3 := hW3.size
  have hR03 : RowAt w3 w.heap.size 70 #[.int .i64 0, .int .i64 0, .slice none 0 0] := hR02.below hW3 (by omega)
  have hR3 : RowAt w3 (w.heap.size + 1) 70 (lcC kd nm (.slice none 0 0)) := hR2'.below hW3 (by omega)
  have hW3' : Below w.heap.size w w3 := hW2.trans (hW3.mono (by omega))
  have HR03 := hideT' hR03
  have HR3 := hideT' hR3
  clear hm hR02 hR2' hW3 hO hR03 hR3
  go_wp2_with fail
  go_loopg [23] m (fun gg i wr => ∃ (As Bs : List Lm) (z : Value) (ys : List Value), gg = Bs.length ∧ Hid (t.kids = As ++ Bs) ∧ i = .int .i64 (As.length : Int) ∧ RowAt wr (w.heap.size + 1) 70 (lcC kd nm z) ∧ Hid (wr.ownsRow w3.heap.size 70 3 z As.length ys ∧ LcsIn wr (fun x => w3.heap.size ≤ x ∧ z.ownBlock ≠ some x) As ys ∧ (∀ b, b < w3.heap.size → b ≠ w.heap.size + 1 → wr.heap[b]? = w3.heap[b]?)) ∧ w3.heap.size ≤ wr.heap.size ∧ Below w.heap.size w wr)
  case atStart => exact ⟨[], t.kids, .slice none 0 0, [], by rw [HM.out], rfl, rfl, HR3.out, ⟨⟨rfl, .inl ⟨rfl, rfl⟩⟩, rfl, fun _ _ _ => rfl⟩, Nat.le_refl _, hW3'⟩
  case round =>
    obtain ⟨As, Bs, z, ys, hgg, HA, rfl, hT, HO, hsr, hW⟩ := hrel
    obtain ⟨j, hj⟩ : ∃ j, j = As.length := ⟨_, rfl⟩
    obtain ⟨oz, cz, hzz⟩ := own_formT HO.out.1
    subst hzz
    rw [← hj] at hT HO ⊢
    have HJ := hideT' hj
    clear hj
    cases Bs with
    | nil =>
      have hjm : j = m := by rw [HJ.out, HM.out, HA.out]; simp
      have hnl : ¬ (j : Int) < (m : Int) := by omega
      have hR0r : RowAt wr w.heap.size 70 #[.int .i64 0, .int .i64 0, .slice none 0 0] := by unfold RowAt; rw [HO.out.2.2 w.heap.size (by omega) (by omega)]; exact HR03.out
      have HEK : Hid (t.kids = As) := by unfold Hid; have := HA.out; simpa using this
      clear hgg hjm
      go_wp2_with (first | (refine wpList_load_row rfl 70 _ rfl (w.heap.size + 1) rfl 70 (lcC kd nm (.slice oz j cz)) (0, 0) _ hT Tryd.underlying70 rfl zero_lcT.2 ?_) | (refine store_3 rfl 70 _ _ rfl rfl zero_lcT.2 w.heap.size (lcC kd nm (.slice oz j cz)) rfl (lcC_one _ _ _ rfl) rfl rfl _ rfl hR0r ?_; intro w5 hR5 hg5 hs5))
      refine bodyPost_ret (v := .agg (lcC kd nm (.slice oz j cz))) (results_cell_row Tryd.results38 _ _ w.heap.size 70 (lcC kd nm (.slice oz j cz)) (0, 0) _ rfl hR5 Tryd.underlying70 rfl zero_lcT.2) rfl ⟨⟨_, rfl, ?_⟩, hW.grown hg5 (by have := hW.size; omega) (by intro k hk; cases hk; omega)⟩
      have hst : ∀ b, w3.heap.size ≤ b → b < wr.heap.size → w5.heap[b]? = wr.heap[b]? := fun b h1 h2 => hg5.block b h2 (by intro e; injection e; omega)
      obtain ⟨hOw, hLs, _⟩ := HO.out
      refine LcIn.of_row (B := w3.heap.size) (ys := ys) (own_keep hOw (fun b hb => hst b (hOw.lt b hb).1 (hOw.lt b hb).2) |> fun h => by rw [HEK.out, ← HJ.out]; exact h) ?_ (fun b hb => by have := (hOw.lt b hb).1; omega)
      rw [HEK.out]
      exact LcsIn.keep (by omega) (fun x hx hl => hst x hx.1 hl) (fun x hx _ => by have := hx.1; omega) hLs
    | cons T Bs =>
      have hil : (j : Int) < (m : Int) := by rw [HM.out, HA.out, List.length_append, ← HJ.out]; simp; omega
      have hkj : t.kids[j]? = some T := by rw [HA.out, HJ.out]; simp
      obtain ⟨r, hrp, hsT, hshT⟩ := kid_seg HSEG.out.1 HSEG.out.2 j T hkj
      have hrl := hsT.lt
      have cpar : ∃ gu, ou = some ⟨gu, 0, none⟩ ∧ wr.cell? ⟨gu, j, none⟩ = some (.int .i64 (r : Int)) ∧ gu < wr.heap.size := by
        obtain ⟨o', cap', e', hin⟩ := HU.out
        have hjl : j < (natsI (t.kidsAt a)).length := by rw [natsI_len, kidsAt_len, ← HM.out]; omega
        obtain ⟨gu, ho, hgl, hcc⟩ := hin (by intro e; rw [e] at hjl; simp at hjl)
        cases e'
        have hub := HUB.out gu (by rw [ho]; rfl)
        refine ⟨gu, ho, ?_, by omega⟩
        rw [World.cell?_of_block (w := w3) (a := ⟨gu, j, none⟩) (HO.out.2.2 gu hub.2 (by omega))]
        have := hcc j 0 (.int .i64 (r : Int)) hjl (by
          have e1 : (natsI (t.kidsAt a)).getD j default = (r : Int) := by
            unfold natsI
            rw [List.getD, List.getElem?_map, hrp]; rfl
          rw [e1]; rfl)
        simpa using this
      obtain ⟨gu, hou, hcu, hgul⟩ := cpar
      subst hou
      have hNW : ∀ w', Below w.heap.size w w' → NdIn w' (.slice (some ⟨g, 0, none⟩) n cap) l := fun w' hB => by rw [HNN.out]; exact HV.out.below hB
      have HNW := hideT' hNW
      have hTs := Lm.kids_lt (List.mem_of_getElem? hkj)
      have HCALL : Hid (∀ w', NdIn w' (.slice (some ⟨g, 0, none⟩) n cap) l → Calls Tryd.prog 38 #[.slice (some ⟨g, 0, none⟩) n cap, .int .i64 (r : Int)] w' fun e w'' => (∃ z, e = .returned (.agg (lcC T.kd T.nm z)) ∧ LcIn w'' (fun x => w'.heap.size ≤ x) T z) ∧ Below w'.heap.size w' w'') := by
        intro w' hN'
        exact HIH.out T.sz (by have := HTN.out; omega) T (Nat.le_refl _) l r (a : Int) _ w' (by have := HNN.out; omega) hN' hsT hshT
      clear hNW hrp hsT hshT hkj
      go_wp2_with fail
      refine late_begin [8] (fun w' => RowAt w' (w.heap.size + 1) 70 (lcC kd nm (.slice oz j cz))) (by kernel_rfl) ?_
      have hS : RowAt wr.drew (w.heap.size + 1) 70 (lcC kd nm (.slice oz j cz)) := hT
      refine late_val 0 (some 27) rfl rfl (by kernel_rfl) (by kernel_rfl) (by kernel_rfl) [1, 6, 8] (by kernel_rfl) noPanic_put rfl (.pointer (some ⟨w.heap.size + 1, 2, none⟩)) (fun _ _ => by go_simp) hS ?_
      simp only [Act.put, List.setIfInBounds_toArray, List.set_cons_zero, List.set_cons_succ]
      refine late_val 1 (some 28) rfl rfl (by kernel_rfl) (by kernel_rfl) (by kernel_rfl) [6, 8] (by kernel_rfl) noPanic_put rfl (.slice oz j cz) (fun w' h => by have c : w'.cell? ⟨w.heap.size + 1, 2, none⟩ = some (.slice oz j cz) := (by rw [cell_of_row w' _ _ _ _ _ h]; rfl); go_simp) hS ?_
      simp only [Act.put, List.setIfInBounds_toArray, List.set_cons_zero, List.set_cons_succ]
      refine late_val 2 (some 29) rfl rfl (by kernel_rfl) (by kernel_rfl) (by kernel_rfl) [4, 5, 6, 8] (by kernel_rfl) noPanic_put rfl (.slice (some ⟨g, 0, none⟩) n cap) (fun _ _ => by go_simp) hS ?_
      simp only [Act.put, List.setIfInBounds_toArray, List.set_cons_zero, List.set_cons_succ]
      refine late_val 3 (some 30) rfl rfl (by kernel_rfl) (by kernel_rfl) (by kernel_rfl) [4, 5, 6, 8] (by kernel_rfl) noPanic_put rfl (.int .i64 (r : Int)) (fun _ _ => by go_simp) hS ?_
      simp only [Act.put, List.setIfInBounds_toArray, List.set_cons_zero, List.set_cons_succ]
      refine late_call 4 (some 31) (by kernel_rfl) rfl rfl rfl 38 #[.slice (some ⟨g, 0, none⟩) n cap, .int .i64 (r : Int)] (by go_simp) _ (HCALL.out wr.drew (HNW.out _ hW.drew)) ?_
      rintro e w5 ⟨⟨z1, rfl, hc1⟩, hW5⟩
      have hW5 : Below wr.heap.size wr w5 := ⟨hW5.os, hW5.tape, hW5.output, hW5.size, hW5.block⟩
      have hc1 : LcIn w5 (fun x => wr.heap.size ≤ x) T z1 := hc1
      have hs5 := hW5.size
      have hS1 : RowAt w5 (w.heap.size + 1) 70 (lcC kd nm (.slice oz j cz)) := RowAt.below hT hW5 (RowAt.lt hT)
      refine ⟨_, rfl, .inr hS1, ?_⟩
      simp only [Act.put, List.setIfInBounds_toArray, List.set_cons_zero, List.set_cons_succ]
      have hS2 : RowAt (w5.alloc (.cells (lcC T.kd T.nm z1) 70)) (w.heap.size + 1) 70 (lcC kd nm (.slice oz j cz)) := RowAt.old hS1 _
      refine late_ready 5 (some 32) (by kernel_rfl) rfl rfl rfl (.slice (some ⟨w5.heap.size, 0, none⟩) 1 1) (w5.alloc (.cells (lcC T.kd T.nm z1) 70)) (by unfold lcC; go_simp) (.inr hS2) ?_
      simp only [Act.put, List.setIfInBounds_toArray, List.set_cons_zero, List.set_cons_succ]
      have hO5 : w5.ownsRow w3.heap.size 70 3 (.slice oz j cz) j ys := own_keep HO.out.1 (fun b hb => hW5.block b (HO.out.1.lt b hb).2)
      obtain ⟨i0, hi, hzz0, hzz1, hzz2⟩ := info_parts info_lcT
      refine late_one 6 (by kernel_rfl) rfl rfl fun K hK => ?_
      refine append_own3_wp _ _ _ 68 rfl w3.heap.size 70 i0 (.agg #[.int .i64 0, .int .i64 0, .slice none 0 0]) 3 40 Tryd.underlying68 hi hzz0 hzz1 hzz2 rfl (by decide) (.slice oz j cz) j ys rfl (hO5.alloc _) ⟨w5.heap.size, 0, none⟩ 1 1 (lcL T.kd T.nm z1) rfl rfl (lc_cells w5 T.kd T.nm z1) (lcL_one _ _ _ hc1.one) (by omega) (by unfold maxLen; omega) (by omega) (by simp; omega) ?_
      intro v6 w6 hv6 hg6 hb6
      have hs6 := hg6.size
      simp only [World.size_alloc] at hs6 hb6
      have hnb : ∀ b, (Value.slice oz j cz).ownBlock = some b → w3.heap.size ≤ b ∧ b < wr.heap.size := fun b hb => HO.out.1.lt b hb
      have hS6 : RowAt w6 (w.heap.size + 1) 70 (lcC kd nm (.slice oz j cz)) := hS2.grown hg6 (fun e => by have := (hnb _ e.symm).1; omega)
      refine hK.out _ _ (.inr hS6) ?_
      simp only [Act.put, List.setIfInBounds_toArray]
      have hS := hS6
      refine late_val 7 (some 34) rfl rfl (by kernel_rfl) (by kernel_rfl) (by kernel_rfl) [8] (by kernel_rfl) noPanic_put rfl (.pointer (some ⟨w.heap.size + 1, 2, none⟩)) (fun _ _ => by go_simp) hS ?_
      simp only [Act.put]
      obtain ⟨o6, c6, rfl⟩ := own_formT hv6
      refine late_one 8 (by kernel_rfl) rfl rfl fun K8 hK8 => ?_
      refine store_at_wp 68 _ _ rfl rfl (w.heap.size + 1) 2 (.slice o6 (j + 1) c6) rfl rfl one_sllc rfl 70 (lcC kd nm (.slice oz j cz)) hS6 (show 2 < 3 by omega) ?_
      intro w7 hR7 hg7 hs7
      refine hK8.out _ _ (.inl ⟨8, by simp, rfl⟩) ?_
      refine late_done (by kernel_rfl) ?_ _
      refine NoPanic.normal ?_
      have hR7' : RowAt w7 (w.heap.size + 1) 70 (lcC kd nm (.slice o6 (j + 1) c6)) := hR7
      have hWsz := hW.size
      have hgx : ∀ b, b < w5.heap.size → b ≠ w.heap.size + 1 → (Value.slice oz j cz).ownBlock ≠ some b → w7.heap[b]? = w5.heap[b]? := fun b hb hbt hbo => by
        rw [hg7.block b (by omega) (by intro e; injection e; omega), hg6.block b (by simp; omega) (fun e => hbo e.symm), Below.heap_alloc _ _ _ hb]
      have hown6 : ∀ b, b < w5.heap.size → (Value.slice oz j cz).ownBlock ≠ some b → (Value.slice o6 (j + 1) c6).ownBlock ≠ some b := fun b hb hbo e => by
        rcases hb6 with h | h
        · exact hbo (by rw [← h]; exact e)
        · rw [h] at e
          injection e with e
          omega
      have HEND : Hid (w7.ownsRow w3.heap.size 70 3 (.slice o6 (j + 1) c6) (As ++ [T]).length (ys ++ lcL T.kd T.nm z1) ∧ LcsIn w7 (fun x => w3.heap.size ≤ x ∧ (Value.slice o6 (j + 1) c6).ownBlock ≠ some x) (As ++ [T]) (ys ++ lcL T.kd T.nm z1) ∧ (∀ b, b < w3.heap.size → b ≠ w.heap.size + 1 → w7.heap[b]? = w3.heap[b]?)) := by
        refine ⟨?_, LcsIn.snoc (LcIn.keep (by omega) (fun x hx hl => hgx x hl (by omega) (fun e => by have := (hnb x e).2; omega)) (fun x hx hl => ⟨by omega, hown6 x hl (fun e => by have := (hnb x e).2; omega)⟩) hc1) (LcsIn.keep (w := wr) (by omega) (fun x hx hl => by rw [hgx x (by omega) (by omega) hx.2]; exact hW5.block x hl) (fun x hx hl => ⟨hx.1, hown6 x (by omega) hx.2⟩) HO.out.2.1), fun b hb hbt => ?_⟩
        · rw [List.length_append, ← HJ.out]
          exact own_keep hv6 (fun b hb => hg7.block b (hv6.lt b hb).2 (by intro e; injection e with e; have := (hv6.lt b hb).1; omega))
        · rw [hgx b (by omega) hbt (fun e => by have := (hnb b e).1; omega), hW5.block b (by omega)]
          exact HO.out.2.2 b hb hbt
      have HA2 : Hid (t.kids = (As ++ [T]) ++ Bs) := by unfold Hid; rw [HA.out]; simp
      have hB7 : Below w.heap.size w w7 := (((hW.trans (hW5.mono (by omega))).alloc (by omega) _).grown hg6 (by simp; omega) (fun b hb => by have := (hnb b hb).1; omega)).grown hg7 (by omega) (by intro k hk; cases hk; omega)
      have hs7' : w3.heap.size ≤ w7.heap.size := by omega
      clear hgx hown6 HO hO5 hv6 hg6 hb6 hg7 hs7 hs6 hc1 hW5 hS1 hS2 hS6 hS hT hR7 hW hnb
      go_wp2
      go_roundg Bs.length
      case measure => rw [hgg]; simp
      case rel => exact ⟨As ++ [T], Bs, .slice o6 (j + 1) c6, ys ++ lcL T.kd T.nm z1, rfl, HA2, by rw [List.length_append, ← HJ.out]; go_num, hR7', HEND, hs7', hB7⟩
theorem lcTree_all : ∀ N, LcTreeC N := by
  intro N
  induction N using Nat.strongRecOn with
  | _ N IH => exact lcTree_step N IH
end Go.Proofs.YtgolfbjfopoeeaaDoor.CB
