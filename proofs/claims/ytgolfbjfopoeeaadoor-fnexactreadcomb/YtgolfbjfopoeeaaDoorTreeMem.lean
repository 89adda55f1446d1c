/-
  Trees of nodes in memory, and how a row of nodes is read as one (the program's side).
-/
import Derived.Test.YtgolfbjfopoeeaaDoorTreeOf
import Derived.Test.YtgolfbjfopoeeaaDoorRecs2
import Derived.Test.YtgolfbjfopoeeaaDoorTermOps
namespace Go.Proofs.YtgolfbjfopoeeaaDoor
open Go.RowKit
set_option linter.unusedVariables false

/-- Nodes as the laws' helpers have them. -/
def triN (d : Nd) : Int × Int × Int := (d.k, d.n, d.u)
def tri (l : List Nd) : List (Int × Int × Int) := l.map triN
theorem tri_len (l : List Nd) : (tri l).length = l.length := by simp [tri]
theorem tri_get (l : List Nd) (i : Nat) : (tri l).getD i default = triN (ndAt l i) := by
  unfold tri ndAt
  simp only [List.getD, List.getElem?_map]
  cases l[i]? <;> rfl
def NdIn (w : World) (v : Value) (l : List Nd) : Prop := InR w v termL 3 (tri l)
theorem NdIn.below {w w' : World} {v : Value} {l : List Nd} (h : NdIn w v l) (hB : Below w.heap.size w w') : NdIn w' v l := InR.below h hB
theorem NdIn.len {w : World} {v : Value} {l : List Nd} (h : NdIn w v l) : ∃ o cap, v = .slice o l.length cap := by
  obtain ⟨o, cap, e, _⟩ := h
  exact ⟨o, cap, by rw [e, tri_len]⟩
theorem NdIn.cells {w : World} {o : Option Addr} {n cap : Nat} {l : List Nd} (h : NdIn w (.slice o n cap) l) {i : Nat} (hi : i < l.length) {d : Nd} (hd : d = ndAt l i) :
    ∃ g, o = some ⟨g, 0, none⟩ ∧ g < w.heap.size ∧ w.cell? ⟨g, i * 3, none⟩ = some (.int .i64 d.k) ∧ w.cell? ⟨g, i * 3 + 1, none⟩ = some (.int .i64 d.n) ∧ w.cell? ⟨g, i * 3 + 2, none⟩ = some (.int .i64 d.u) := by
  obtain ⟨o', cap', e, h⟩ := h
  cases e
  have hi' : i < (tri l).length := by rw [tri_len]; exact hi
  obtain ⟨g, rfl, hlt, hc⟩ := h (by intro e; rw [e] at hi'; simp at hi')
  subst hd
  exact ⟨g, rfl, hlt, hc i 0 _ hi' (by rw [tri_get]; rfl), hc i 1 _ hi' (by rw [tri_get]; rfl), hc i 2 _ hi' (by rw [tri_get]; rfl)⟩

/-- A tree in memory, in blocks of P alone. -/
def TrIn (w : World) (P : Nat → Prop) : Lm → Nat → Prop
  | .var n, b => P b ∧ ∃ u o c, RowAt w b 95 (treeC 1 n u (.slice o 0 c) 1 1)
  | .lam t, b => P b ∧ ∃ u g c b1, RowAt w b 95 (treeC 2 0 u (.slice (some ⟨g, 0, none⟩) 1 c) (t.sz + 1) (t.dp + 1)) ∧ (g < w.heap.size ∧ P g) ∧ w.cell? ⟨g, 0, none⟩ = some (.pointer (some ⟨b1, 0, none⟩)) ∧ TrIn w P t b1
  | .app s t, b => P b ∧ ∃ u g c b1 b2, RowAt w b 95 (treeC 3 0 u (.slice (some ⟨g, 0, none⟩) 2 c) (s.sz + t.sz + 1) (max s.dp t.dp + 1)) ∧ (g < w.heap.size ∧ P g) ∧ w.cell? ⟨g, 0, none⟩ = some (.pointer (some ⟨b1, 0, none⟩)) ∧ w.cell? ⟨g, 1, none⟩ = some (.pointer (some ⟨b2, 0, none⟩)) ∧ TrIn w P s b1 ∧ TrIn w P t b2
theorem TrIn.lt {w : World} {P : Nat → Prop} : ∀ {t : Lm} {b : Nat}, TrIn w P t b → b < w.heap.size
  | .var n, b, h => by obtain ⟨_, u, o, c, h⟩ := h; exact h.lt
  | .lam t, b, h => by obtain ⟨_, u, g, c, b1, h, _⟩ := h; exact h.lt
  | .app s t, b, h => by obtain ⟨_, u, g, c, b1, b2, h, _⟩ := h; exact h.lt
/-- It stays where its blocks do. -/
theorem TrIn.keep {w w' : World} {P Q : Nat → Prop} (hw : w.heap.size ≤ w'.heap.size) (hk : ∀ x, P x → x < w.heap.size → w'.heap[x]? = w.heap[x]?) (hQ : ∀ x, P x → x < w.heap.size → Q x) : ∀ {t : Lm} {b : Nat}, TrIn w P t b → TrIn w' Q t b
  | .var n, b, h => by
    obtain ⟨hp, u, o, c, h⟩ := h
    exact ⟨hQ _ hp h.lt, u, o, c, by unfold RowAt; rw [hk _ hp h.lt]; exact h⟩
  | .lam t, b, h => by
    obtain ⟨hp, u, g, c, b1, h, hg, hc, h1⟩ := h
    exact ⟨hQ _ hp h.lt, u, g, c, b1, by unfold RowAt; rw [hk _ hp h.lt]; exact h, ⟨Nat.lt_of_lt_of_le hg.1 hw, hQ _ hg.2 hg.1⟩, by rw [World.cell?_of_block (w := w) (a := ⟨g, 0, none⟩) (hk _ hg.2 hg.1)]; exact hc, TrIn.keep hw hk hQ h1⟩
  | .app s t, b, h => by
    obtain ⟨hp, u, g, c, b1, b2, h, hg, hc, hc2, h1, h2⟩ := h
    exact ⟨hQ _ hp h.lt, u, g, c, b1, b2, by unfold RowAt; rw [hk _ hp h.lt]; exact h, ⟨Nat.lt_of_lt_of_le hg.1 hw, hQ _ hg.2 hg.1⟩, by rw [World.cell?_of_block (w := w) (a := ⟨g, 0, none⟩) (hk _ hg.2 hg.1)]; exact hc, by rw [World.cell?_of_block (w := w) (a := ⟨g, 1, none⟩) (hk _ hg.2 hg.1)]; exact hc2, TrIn.keep hw hk hQ h1, TrIn.keep hw hk hQ h2⟩
theorem TrIn.below {w w' : World} {P : Nat → Prop} (hB : Below w.heap.size w w') {t : Lm} {b : Nat} (h : TrIn w P t b) : TrIn w' P t b := TrIn.keep hB.size (fun x _ hx => hB.block x hx) (fun _ h _ => h) h
theorem TrIn.mono {w : World} {P Q : Nat → Prop} (hQ : ∀ x, P x → x < w.heap.size → Q x) {t : Lm} {b : Nat} (h : TrIn w P t b) : TrIn w Q t b := TrIn.keep (Nat.le_refl _) (fun _ _ _ => rfl) hQ h
theorem TrIn.grown {w w' : World} {P : Nat → Prop} {r : Nat} (hg : w.grownBy w' (some r)) (hr : ¬ P r) {t : Lm} {b : Nat} (h : TrIn w P t b) : TrIn w' P t b := TrIn.keep hg.size (fun x hx hl => hg.block x hl (by intro e; injection e with e; subst e; exact hr hx)) (fun _ h _ => h) h
abbrev TrAt (w : World) (t : Lm) (b : Nat) : Prop := TrIn w (fun _ => True) t b
theorem TrIn.at {w : World} {P : Nat → Prop} {t : Lm} {b : Nat} (h : TrIn w P t b) : TrAt w t b := h.mono fun _ _ _ => trivial
/-- Its first six cells. -/
theorem TrIn.head {w : World} {P : Nat → Prop} {t : Lm} {b : Nat} (h : TrIn w P t b) : ∃ u v, RowAt w b 95 (treeC t.kd t.nm u v t.sz t.dp) := by
  cases t with
  | var n => obtain ⟨_, u, o, c, h⟩ := h; exact ⟨u, _, h⟩
  | lam t => obtain ⟨_, u, g, c, b1, h, _⟩ := h; exact ⟨u, _, h⟩
  | app s t => obtain ⟨_, u, g, c, b1, b2, h, _⟩ := h; exact ⟨u, _, h⟩
theorem TrIn.size {w : World} {P : Nat → Prop} {t : Lm} {b : Nat} (h : TrIn w P t b) : w.cell? ⟨b, 4, none⟩ = some (.int .i64 (t.sz : Int)) := by
  obtain ⟨u, v, h⟩ := h.head
  rw [cell_of_row _ _ _ _ _ _ h]; rfl
theorem TrIn.deep {w : World} {P : Nat → Prop} {t : Lm} {b : Nat} (h : TrIn w P t b) : w.cell? ⟨b, 5, none⟩ = some (.int .i64 (t.dp : Int)) := by
  obtain ⟨u, v, h⟩ := h.head
  rw [cell_of_row _ _ _ _ _ _ h]; rfl
theorem TrIn.kind {w : World} {P : Nat → Prop} {t : Lm} {b : Nat} (h : TrIn w P t b) : w.cell? ⟨b, 0, none⟩ = some (.int .i64 t.kd) := by
  obtain ⟨u, v, h⟩ := h.head
  rw [cell_of_row _ _ _ _ _ _ h]; rfl
theorem TrIn.name {w : World} {P : Nat → Prop} {t : Lm} {b : Nat} (h : TrIn w P t b) : w.cell? ⟨b, 1, none⟩ = some (.int .i64 t.nm) := by
  obtain ⟨u, v, h⟩ := h.head
  rw [cell_of_row _ _ _ _ _ _ h]; rfl

/-- Trees in the blocks of a list, as treeOf takes them. -/
def KidsAt (w : World) (P : Nat → Prop) (v : Value) (ks : List (Nat × Lm)) : Prop :=
  ∃ o cap, v = .slice o ks.length cap ∧ (ks ≠ [] → ∃ g, o = some ⟨g, 0, none⟩ ∧ (g < w.heap.size ∧ P g) ∧ ∀ i p, ks[i]? = some p → w.cell? ⟨g, i, none⟩ = some (.pointer (some ⟨p.1, 0, none⟩))) ∧ ∀ p ∈ ks, TrIn w P p.2 p.1
def ptsOf (ks : List (Nat × Lm)) : List (Nat × Nat × Nat) := ks.map fun p => (p.1, p.2.sz, p.2.dp)
theorem KidsAt.pts {w : World} {P : Nat → Prop} {v : Value} {ks : List (Nat × Lm)} (h : KidsAt w P v ks) : PtsAt w v (ptsOf ks) := by
  obtain ⟨o, cap, rfl, h1, h2⟩ := h
  refine ⟨o, cap, by simp [ptsOf], fun hn => ?_, fun p hp => ?_⟩
  · obtain ⟨g, e, hg, hc⟩ := h1 (by rintro rfl; exact hn rfl)
    refine ⟨g, e, hg.1, fun i p hi => ?_⟩
    unfold ptsOf at hi
    rw [List.getElem?_map] at hi
    cases hq : ks[i]? with
    | none => rw [hq] at hi; cases hi
    | some q =>
      rw [hq] at hi
      injection hi with hi
      subst hi
      exact hc i q hq
  · obtain ⟨q, hq, rfl⟩ := List.mem_map.1 hp
    exact ⟨(h2 q hq).lt, (h2 q hq).size, (h2 q hq).deep⟩
theorem KidsAt.keep {w w' : World} {P Q : Nat → Prop} (hw : w.heap.size ≤ w'.heap.size) (hk : ∀ x, P x → x < w.heap.size → w'.heap[x]? = w.heap[x]?) (hQ : ∀ x, P x → x < w.heap.size → Q x) {v : Value} {ks : List (Nat × Lm)} (h : KidsAt w P v ks) : KidsAt w' Q v ks := by
  obtain ⟨o, cap, rfl, h1, h2⟩ := h
  refine ⟨o, cap, rfl, fun hn => ?_, fun p hp => TrIn.keep hw hk hQ (h2 p hp)⟩
  obtain ⟨g, e, hg, hc⟩ := h1 hn
  exact ⟨g, e, ⟨Nat.lt_of_lt_of_le hg.1 hw, hQ _ hg.2 hg.1⟩, fun i p hi => by rw [World.cell?_of_block (w := w) (a := ⟨g, i, none⟩) (hk _ hg.2 hg.1)]; exact hc i p hi⟩
theorem KidsAt.below {w w' : World} {P : Nat → Prop} {v : Value} {ks : List (Nat × Lm)} (h : KidsAt w P v ks) (hB : Below w.heap.size w w') : KidsAt w' P v ks := h.keep hB.size (fun x _ hx => hB.block x hx) (fun _ h _ => h)
/-- A new tree of a node and its parts. -/
def nodeOf (k n : Int) : List Lm → Option Lm
  | [] => if k = 1 then some (.var n) else none
  | [t] => if k = 2 ∧ n = 0 then some (.lam t) else none
  | [s, t] => if k = 3 ∧ n = 0 then some (.app s t) else none
  | _ => none
theorem treeNew_at {w w' : World} {P : Nat → Prop} {k n u : Int} {v : Value} {ks : List (Nat × Lm)} {e : Ending} {t : Lm} (hK : KidsAt w P v ks) (ht : nodeOf k n (ks.map Prod.snd) = some t) (h : TreeNew w k n u v (szP (ptsOf ks)) (dpP (ptsOf ks)) e w') :
    ∃ b, e = .returned (.pointer (some ⟨b, 0, none⟩)) ∧ w.heap.size ≤ b ∧ TrIn w' (fun x => P x ∨ w.heap.size ≤ x) t b ∧ Below w.heap.size w w' := by
  obtain ⟨b, rfl, hb, hR, hB⟩ := h
  refine ⟨b, rfl, hb, ?_, hB⟩
  obtain ⟨o, cap, rfl, h1, h2⟩ := hK.keep (Q := fun x => P x ∨ w.heap.size ≤ x) hB.size (fun x _ hx => hB.block x hx) (fun _ h _ => .inl h)
  match ks, ht, hR, h1, h2 with
  | [], ht, hR, h1, h2 =>
    simp only [List.map_nil, nodeOf] at ht
    split at ht
    · next hk =>
      injection ht with ht
      subst ht
      subst hk
      exact ⟨.inr hb, u, o, cap, hR⟩
    · cases ht
  | [(b1, t1)], ht, hR, h1, h2 =>
    simp only [List.map_cons, List.map_nil, nodeOf] at ht
    split at ht
    · next hk =>
      injection ht with ht
      subst ht
      obtain ⟨rfl, rfl⟩ := hk
      obtain ⟨g, rfl, hg, hc⟩ := h1 (by simp)
      refine ⟨.inr hb, u, g, cap, b1, ?_, hg, hc 0 _ rfl, h2 (b1, t1) (by simp)⟩
      have e1 : szP (ptsOf [(b1, t1)]) = t1.sz + 1 := by simp [szP, ptsOf, Nat.add_comm]
      have e2 : dpP (ptsOf [(b1, t1)]) = t1.dp + 1 := by simp [dpP, ptsOf]
      rw [e1, e2] at hR
      exact hR
    · cases ht
  | [(b1, t1), (b2, t2)], ht, hR, h1, h2 =>
    simp only [List.map_cons, List.map_nil, nodeOf] at ht
    split at ht
    · next hk =>
      injection ht with ht
      subst ht
      obtain ⟨rfl, rfl⟩ := hk
      obtain ⟨g, rfl, hg, hc⟩ := h1 (by simp)
      refine ⟨.inr hb, u, g, cap, b1, b2, ?_, hg, hc 0 _ rfl, hc 1 _ rfl, h2 (b1, t1) (by simp), h2 (b2, t2) (by simp)⟩
      have e1 : szP (ptsOf [(b1, t1), (b2, t2)]) = t1.sz + t2.sz + 1 := by simp [szP, ptsOf]; omega
      have e2 : dpP (ptsOf [(b1, t1), (b2, t2)]) = max t1.dp t2.dp + 1 := by simp [dpP, ptsOf]
      rw [e1, e2] at hR
      exact hR
    · cases ht
  | _ :: _ :: _ :: _, ht, _, _, _ => simp [nodeOf] at ht

theorem info_ptree : (Tryd.prog.info? 54).map (fun i => (i.zero, i.size, i.bytes)) = some (some (.pointer none), 1, 8) := by kernel_rfl
theorem one_ptree : (Tryd.prog.info? 54).map (·.size) = some 1 := by kernel_rfl
abbrev ptrL : Option Nat → List Value := fun b => [.pointer (b.map fun b => ⟨b, 0, none⟩)]
theorem ptrL_len (x : Option Nat) : (ptrL x).length = 1 := rfl
theorem make_ptree (n : Nat) (hn : n ≤ 1048576) (w : World) : (Instr.makeSlice 93 (.int .i64 (n : Int)) (.int .i64 (n : Int))).run Tryd.prog w = .ok (.slice (some ⟨w.heap.size, 0, none⟩) n n) (w.alloc (.cells ((List.replicate n (none : Option Nat)).flatMap ptrL).toArray 54)) := by
  obtain ⟨i, hi, hzz⟩ := Option.map_eq_some_iff.1 info_ptree
  simp only [Prod.mk.injEq] at hzz
  obtain ⟨hz, hs, hb⟩ := hzz
  have hr := run_make (P := Tryd.prog) w 93 54 i _ Tryd.underlying93 hi hz .i64 .i64 n n (by omega) (Int.le_refl _) (by rw [hb]; omega) (by omega)
  simp only [Int.toNat_natCast, hs] at hr
  rw [hr, ← made_rec ptrL 1 ptrL_len _ (none : Option Nat) (by rfl) n]
  rfl
end Go.Proofs.YtgolfbjfopoeeaaDoor
