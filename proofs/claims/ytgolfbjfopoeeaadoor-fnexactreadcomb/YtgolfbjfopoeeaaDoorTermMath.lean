/-
  Terms as trees, their nodes in a row, and when a row of nodes is a good term (plain).
-/
import Derived.Test.YtgolfbjfopoeeaaDoorRows
namespace Go.Proofs.YtgolfbjfopoeeaaDoor
set_option linter.unusedVariables false

/-- A node. -/
structure Nd where
  k : Int
  n : Int
  u : Int
instance : Inhabited Nd := ⟨⟨0, 0, 0⟩⟩
/-- A term. -/
inductive Lm where
  | var (n : Int)
  | lam (t : Lm)
  | app (a b : Lm)
instance : Inhabited Lm := ⟨.var 0⟩
def Lm.sz : Lm → Nat
  | .var _ => 1
  | .lam t => t.sz + 1
  | .app a b => a.sz + b.sz + 1
def Lm.dp : Lm → Nat
  | .var _ => 1
  | .lam t => t.dp + 1
  | .app a b => max a.dp b.dp + 1
/-- Variables as they may be. -/
def Lm.ok : Lm → Bool
  | .var n => decide (0 ≤ n) && decide (n ≤ 99)
  | .lam t => t.ok
  | .app a b => a.ok && b.ok
def Lm.good (t : Lm) : Bool := t.ok && (decide (t.sz ≤ 150) && decide (t.dp ≤ 40))
/-- The nodes of a term whose first one has the number at. -/
def Lm.flat : Lm → Nat → Int → List Nd
  | .var n, _, up => [⟨1, n, up⟩]
  | .lam t, a, up => ⟨2, 0, up⟩ :: t.flat (a + 1) a
  | .app s t, a, up => ⟨3, 0, up⟩ :: (s.flat (a + 1) a ++ t.flat (a + 1 + s.sz) a)
theorem Lm.sz_pos (t : Lm) : 0 < t.sz := by cases t <;> simp [Lm.sz]
theorem Lm.dp_pos (t : Lm) : 0 < t.dp := by cases t <;> simp [Lm.dp]
theorem Lm.flat_sz : ∀ (t : Lm) (a : Nat) (up : Int), (t.flat a up).length = t.sz
  | .var n, _, _ => rfl
  | .lam t, a, up => by rw [Lm.flat, List.length_cons, Lm.flat_sz t, Lm.sz]
  | .app s t, a, up => by rw [Lm.flat, List.length_cons, List.length_append, Lm.flat_sz s, Lm.flat_sz t, Lm.sz]
theorem Lm.dp_sz : ∀ t : Lm, t.dp ≤ t.sz
  | .var _ => Nat.le_refl _
  | .lam t => by have := Lm.dp_sz t; simp only [Lm.dp, Lm.sz]; omega
  | .app s t => by have := Lm.dp_sz s; have := Lm.dp_sz t; simp only [Lm.dp, Lm.sz]; omega

/-- The node of a number. -/
def ndAt (l : List Nd) (i : Nat) : Nd := l.getD i default
theorem ndAt_app (pre : List Nd) (d : Nd) (post : List Nd) : ndAt (pre ++ d :: post) pre.length = d := by
  unfold ndAt; simp [List.getD]
theorem ndAt_app' {l pre : List Nd} {d : Nd} {post : List Nd} {a : Nat} (h : l = pre ++ d :: post) (ha : a = pre.length) : ndAt l a = d := by
  rw [h, ha]; exact ndAt_app _ _ _

/-- The same from two terms' nodes. -/
theorem Lm.flat_inj : ∀ (s t : Lm) (a : Nat) (up : Int) (p q : List Nd), s.flat a up ++ p = t.flat a up ++ q → s = t ∧ p = q
  | .var n, .var m, a, up, p, q, h => by simp [Lm.flat] at h; exact ⟨by rw [h.1], h.2⟩
  | .var n, .lam t, a, up, p, q, h => by simp [Lm.flat] at h
  | .var n, .app s t, a, up, p, q, h => by simp [Lm.flat] at h
  | .lam s, .var m, a, up, p, q, h => by simp [Lm.flat] at h
  | .lam s, .lam t, a, up, p, q, h => by
    rw [Lm.flat, Lm.flat, List.cons_append, List.cons_append] at h
    injection h with _ h
    obtain ⟨e, h⟩ := Lm.flat_inj s t _ _ _ _ h
    exact ⟨by rw [e], h⟩
  | .lam s, .app t u, a, up, p, q, h => by simp [Lm.flat] at h
  | .app s t, .var m, a, up, p, q, h => by simp [Lm.flat] at h
  | .app s t, .lam u, a, up, p, q, h => by simp [Lm.flat] at h
  | .app s t, .app s' t', a, up, p, q, h => by
    rw [Lm.flat, Lm.flat, List.cons_append, List.cons_append, List.append_assoc, List.append_assoc] at h
    injection h with _ h
    obtain ⟨e1, h⟩ := Lm.flat_inj s s' _ _ _ _ h
    subst e1
    obtain ⟨e2, h⟩ := Lm.flat_inj t t' _ _ _ _ h
    exact ⟨by rw [e2], h⟩
theorem Lm.flat_same {s t : Lm} (h : s.flat 0 (-1) = t.flat 0 (-1)) : s = t := by
  have := Lm.flat_inj s t 0 (-1) [] [] (by rw [h])
  exact this.1

/-! How the program reads nodes. -/
/-- The tree that begins at a place, at most so many nodes around each other. -/
def treeP (l : List Nd) : Nat → Nat → Int → Option Lm
  | 0, _, _ => none
  | d + 1, a, up =>
    if l.length ≤ a then none
    else if (ndAt l a).u ≠ up then none
    else if (ndAt l a).k = 1 ∧ 0 ≤ (ndAt l a).n ∧ (ndAt l a).n ≤ 99 then some (.var (ndAt l a).n)
    else if (ndAt l a).k = 2 ∧ (ndAt l a).n = 0 then (treeP l d (a + 1) a).map .lam
    else if (ndAt l a).k = 3 ∧ (ndAt l a).n = 0 then
      match treeP l d (a + 1) a with
      | none => none
      | some s => (treeP l d (a + 1 + s.sz) a).map (Lm.app s)
    else none
theorem treeP_flat (l : List Nd) : ∀ (d a : Nat) (up : Int) (t : Lm), treeP l d a up = some t → ∃ pre post, l = pre ++ t.flat a up ++ post ∧ pre.length = a ∧ t.ok = true ∧ t.dp ≤ d := by
  intro d
  induction d with
  | zero => intro a up t h; rw [treeP] at h; cases h
  | succ d ih =>
    intro a up t h
    rw [treeP] at h
    split at h
    · cases h
    · next hlt =>
      have hal : a < l.length := by omega
      have hcut : l = l.take a ++ ndAt l a :: l.drop (a + 1) := by
        have h1 : ndAt l a = l[a] := by unfold ndAt; simp [List.getD, List.getElem?_eq_getElem hal]
        conv => lhs; rw [← List.take_append_drop a l, List.drop_eq_getElem_cons hal]
        rw [h1]
      have htl : (l.take a).length = a := by rw [List.length_take]; omega
      split at h
      · cases h
      · next hu =>
        have hu : (ndAt l a).u = up := Decidable.not_not.1 hu
        split at h
        · next hk =>
          injection h with h
          subst h
          refine ⟨l.take a, l.drop (a + 1), ?_, htl, by simp [Lm.ok, hk.2.1, hk.2.2], by simp [Lm.dp]⟩
          rw [Lm.flat, List.append_assoc, List.singleton_append]
          have : (⟨1, (ndAt l a).n, up⟩ : Nd) = ndAt l a := by rw [← hu, ← hk.1]
          rw [this]; exact hcut
        · split at h
          · next hk =>
            cases hq : treeP l d (a + 1) a with
            | none => rw [hq] at h; cases h
            | some s =>
              rw [hq] at h
              injection h with h
              subst h
              obtain ⟨pre, post, h1, h2, h3, h4⟩ := ih _ _ _ hq
              refine ⟨l.take a, post, ?_, htl, h3, by simp only [Lm.dp]; omega⟩
              have e1 : pre = l.take a ++ [ndAt l a] := by
                have : pre = l.take (a + 1) := by rw [h1, ← h2, List.append_assoc, List.take_left]
                rw [this, List.take_succ_eq_append_getElem hal]
                unfold ndAt; simp [List.getD, List.getElem?_eq_getElem hal]
              have e2 : (⟨2, 0, up⟩ : Nd) = ndAt l a := by rw [← hu, ← hk.1, ← hk.2]
              rw [Lm.flat, e2]
              conv => lhs; rw [h1, e1]
              simp
          · split at h
            · next hk =>
              split at h
              · cases h
              · next s hq =>
                cases hq2 : treeP l d (a + 1 + s.sz) a with
                | none => rw [hq2] at h; cases h
                | some t2 =>
                  rw [hq2] at h
                  injection h with h
                  subst h
                  obtain ⟨pre, post, h1, h2, h3, h4⟩ := ih _ _ _ hq
                  obtain ⟨pre', post', h1', h2', h3', h4'⟩ := ih _ _ _ hq2
                  refine ⟨l.take a, post', ?_, htl, by simp [Lm.ok, h3, h3'], by simp only [Lm.dp]; omega⟩
                  have e1 : pre = l.take a ++ [ndAt l a] := by
                    have : pre = l.take (a + 1) := by rw [h1, ← h2, List.append_assoc, List.take_left]
                    rw [this, List.take_succ_eq_append_getElem hal]
                    unfold ndAt; simp [List.getD, List.getElem?_eq_getElem hal]
                  have e3 : pre' = pre ++ s.flat (a + 1) a := by
                    have h5 : pre' = l.take (a + 1 + s.sz) := by rw [h1', ← h2', List.append_assoc, List.take_left]
                    have h6 : (pre ++ s.flat (a + 1) a).length = a + 1 + s.sz := by rw [List.length_append, Lm.flat_sz, h2]
                    rw [h5, ← h6, h1, List.take_left]
                  have e2 : (⟨3, 0, up⟩ : Nd) = ndAt l a := by rw [← hu, ← hk.1, ← hk.2]
                  rw [Lm.flat, e2]
                  conv => lhs; rw [h1', e3, e1]
                  simp
            · cases h
theorem treeP_of (l : List Nd) : ∀ (t : Lm) (d a : Nat) (up : Int) (pre post : List Nd), l = pre ++ t.flat a up ++ post → pre.length = a → t.ok = true → t.dp ≤ d → treeP l d a up = some t := by
  intro t
  induction t with
  | var n =>
    intro d a up pre post hl ha hok hd
    cases d with
    | zero => simp [Lm.dp] at hd
    | succ d =>
      have hn : ndAt l a = ⟨1, n, up⟩ := ndAt_app' (by rw [hl, Lm.flat, List.append_assoc]; rfl) ha.symm
      have hln : a < l.length := by rw [hl, List.length_append, List.length_append, ha, Lm.flat_sz]; simp [Lm.sz]; omega
      simp [Lm.ok] at hok
      rw [treeP, if_neg (by omega), if_neg (by simp [hn]), if_pos (by simp [hn, hok])]
      simp [hn]
  | lam t ih =>
    intro d a up pre post hl ha hok hd
    cases d with
    | zero => simp [Lm.dp] at hd
    | succ d =>
      have hn : ndAt l a = ⟨2, 0, up⟩ := ndAt_app' (post := t.flat (a + 1) a ++ post) (by rw [hl, Lm.flat, List.append_assoc]; rfl) ha.symm
      have hln : a < l.length := by rw [hl, List.length_append, List.length_append, ha, Lm.flat_sz]; simp [Lm.sz]; omega
      rw [treeP, if_neg (by omega), if_neg (by simp [hn]), if_neg (by simp [hn]), if_pos (by simp [hn])]
      rw [ih d (a + 1) a (pre ++ [⟨2, 0, up⟩]) post (by rw [hl, Lm.flat]; simp) (by simp [ha]) hok (by simp [Lm.dp] at hd; exact hd)]
      rfl
  | app s t ihs iht =>
    intro d a up pre post hl ha hok hd
    cases d with
    | zero => simp [Lm.dp] at hd
    | succ d =>
      have hn : ndAt l a = ⟨3, 0, up⟩ := ndAt_app' (post := s.flat (a + 1) a ++ t.flat (a + 1 + s.sz) a ++ post) (by rw [hl, Lm.flat, List.append_assoc]; rfl) ha.symm
      have hln : a < l.length := by rw [hl, List.length_append, List.length_append, ha, Lm.flat_sz]; simp [Lm.sz]; omega
      simp only [Lm.ok, Bool.and_eq_true] at hok
      simp only [Lm.dp] at hd
      rw [treeP, if_neg (by omega), if_neg (by simp [hn]), if_neg (by simp [hn]), if_neg (by simp [hn]), if_pos (by simp [hn])]
      rw [ihs d (a + 1) a (pre ++ [⟨3, 0, up⟩]) (t.flat (a + 1 + s.sz) a ++ post) (by rw [hl, Lm.flat]; simp) (by simp [ha]) hok.1 (by omega)]
      simp only
      rw [iht d (a + 1 + s.sz) a (pre ++ [⟨3, 0, up⟩] ++ s.flat (a + 1) a) post (by rw [hl, Lm.flat]; simp) (by simp [ha, Lm.flat_sz]; omega) hok.2 (by omega)]
      rfl
/-- The term of a row of nodes. -/
def readP' (l : List Nd) : Option Lm := if 150 < l.length then none else match treeP l 40 0 (-1) with | none => none | some t => if t.sz = l.length then some t else none
theorem readP'_iff (l : List Nd) (t : Lm) : readP' l = some t ↔ l = t.flat 0 (-1) ∧ t.good = true := by
  unfold readP' Lm.good
  constructor
  · intro h
    split at h
    · cases h
    · next hlen =>
      split at h
      · cases h
      · next s hs =>
        split at h
        · next hsz =>
          injection h with h
          subst h
          obtain ⟨pre, post, h1, h2, h3, h4⟩ := treeP_flat l _ _ _ _ hs
          have hp : pre = [] := List.length_eq_zero_iff.1 h2
          subst hp
          have hpo : post = [] := by
            have := congrArg List.length h1
            simp [Lm.flat_sz] at this
            exact List.length_eq_zero_iff.1 (by omega)
          subst hpo
          refine ⟨by simpa using h1, ?_⟩
          simp only [Bool.and_eq_true, decide_eq_true_eq]
          exact ⟨h3, by omega, h4⟩
        · cases h
  · rintro ⟨h1, h2⟩
    simp only [Bool.and_eq_true, decide_eq_true_eq] at h2
    have hl : l.length = t.sz := by rw [h1, Lm.flat_sz]
    rw [if_neg (by omega), treeP_of l t 40 0 (-1) [] [] (by simpa using h1) rfl h2.1 h2.2.2]
    simp only
    rw [if_pos hl.symm]

/-! How the model looks at nodes. -/
def upN (l : List Nd) (i : Nat) : Int := (ndAt l i).u
/-- Whether u is met on the way up from a node. -/
def ancF (l : List Nd) (u : Int) : Nat → Int → Bool
  | 0, _ => false
  | f + 1, a => if a < 0 then false else if a = u then true else ancF l u f (upN l a.toNat)
def dpF (l : List Nd) : Nat → Int → Nat
  | 0, _ => 0
  | f + 1, a => if a < 0 then 0 else 1 + dpF l f (upN l a.toNat)
/-- The parts of a node below a bound. -/
def partsTo (l : List Nd) (k i : Nat) : List Nat := (List.range i).filter fun j => decide (k < j) && decide (upN l j = (k : Int))
def wantN (k : Int) : Nat := if k = 2 then 1 else if k = 3 then 2 else 0
def nodeOk (l : List Nd) (k : Nat) : Bool :=
  (decide (k = 0) == decide (upN l k = -1)) && (decide (-1 ≤ upN l k) && decide (upN l k ≤ (k : Int) - 1)) && ((decide ((ndAt l k).k = 1) || (decide ((ndAt l k).k = 2) || decide ((ndAt l k).k = 3))) &&
  ((decide (k = 0) || ancF l (upN l k) k ((k : Int) - 1)) && (decide (dpF l (k + 1) k ≤ 40) && (decide ((partsTo l k l.length).length = wantN (ndAt l k).k) && ((decide (0 ≤ (ndAt l k).n) && decide ((ndAt l k).n ≤ 99)) && (decide ((ndAt l k).k = 1) || decide ((ndAt l k).n = 0)))))))
def goodS (l : List Nd) : Bool := (decide (1 ≤ l.length) && decide (l.length ≤ 150)) && (List.range l.length).all (nodeOk l)

/-- A node around another one, or that one. -/
inductive Anc (l : List Nd) (a : Nat) : Nat → Prop where
  | refl : Anc l a a
  | step {k m : Nat} : upN l k = (m : Int) → Anc l a m → Anc l a k
theorem Anc.trans {l : List Nd} {a b c : Nat} (h1 : Anc l a b) (h2 : Anc l b c) : Anc l a c := by
  induction h2 with
  | refl => exact h1
  | step e _ ih => exact .step e ih
theorem Anc.le {l : List Nd} {a k : Nat} (h : Anc l a k) (N : Nat) (hk : k < N) (hu : ∀ j, j < N → upN l j ≤ (j : Int) - 1) : a ≤ k := by
  induction h with
  | refl => exact Nat.le_refl _
  | @step k m e _ ih => have := hu k hk; have := ih (by omega); omega
/-- How many nodes are around one, with itself. -/
inductive Dpt (l : List Nd) : Nat → Nat → Prop where
  | top {k : Nat} : upN l k < 0 → Dpt l k 1
  | step {k m d : Nat} : upN l k = (m : Int) → Dpt l m d → Dpt l k (d + 1)
theorem dpF_of {l : List Nd} {k d : Nat} (h : Dpt l k d) : ∀ f, k < f → (∀ j, j ≤ k → upN l j ≤ (j : Int) - 1) → dpF l f k = d := by
  induction h with
  | @top k hu =>
    intro f hf hv
    obtain ⟨f, rfl⟩ : ∃ g, f = g + 1 := ⟨f - 1, by omega⟩
    rw [dpF, if_neg (by omega), Int.toNat_natCast]
    cases f with
    | zero => rfl
    | succ f => rw [dpF, if_pos hu]
  | @step k m d hu _ ih =>
    intro f hf hv
    obtain ⟨f, rfl⟩ : ∃ g, f = g + 1 := ⟨f - 1, by omega⟩
    have h1 := hv k (Nat.le_refl _)
    rw [dpF, if_neg (by omega), Int.toNat_natCast, hu, ih f (by omega) (fun j hj => hv j (by omega))]
    omega
theorem ancF_iff {l : List Nd} {u : Int} : ∀ (f k : Nat), k < f → (∀ j, j ≤ k → upN l j ≤ (j : Int) - 1) → (ancF l u f k = true ↔ ∃ a : Nat, u = (a : Int) ∧ Anc l a k) := by
  intro f
  induction f with
  | zero => intro k h; omega
  | succ f ih =>
    intro k hk hv
    rw [ancF, if_neg (by omega), Int.toNat_natCast]
    split
    · next h => simp; exact ⟨k, h.symm, .refl⟩
    · next h =>
      by_cases hu : upN l k < 0
      · have h0 : ancF l u f (upN l k) = false := by cases f with
          | zero => rfl
          | succ f => rw [ancF, if_pos hu]
        rw [h0]
        simp only [Bool.false_eq_true, false_iff]
        rintro ⟨a, rfl, ha⟩
        cases ha with
        | refl => exact h rfl
        | step e _ => omega
      · obtain ⟨m, hm⟩ : ∃ m : Nat, upN l k = (m : Int) := ⟨(upN l k).toNat, by omega⟩
        have h1 := hv k (Nat.le_refl _)
        rw [hm, ih m (by omega) (fun j hj => hv j (by omega))]
        constructor
        · rintro ⟨a, e, ha⟩; exact ⟨a, e, .step hm ha⟩
        · rintro ⟨a, e, ha⟩
          cases ha with
          | refl => exact absurd e.symm h
          | @step _ m' e' ha' =>
            rw [hm] at e'
            have : m = m' := by omega
            subst this
            exact ⟨a, e, ha'⟩
theorem partsTo_mem {l : List Nd} {k i j : Nat} : j ∈ partsTo l k i ↔ j < i ∧ k < j ∧ upN l j = (k : Int) := by
  unfold partsTo; simp
theorem partsTo_sorted (l : List Nd) (k i : Nat) : (partsTo l k i).Pairwise (· < ·) := List.Pairwise.filter _ List.pairwise_lt_range
theorem partsTo_succ (l : List Nd) (k i : Nat) : partsTo l k (i + 1) = partsTo l k i ++ (if decide (k < i) && decide (upN l i = (k : Int)) then [i] else []) := by
  unfold partsTo
  rw [List.range_succ, List.filter_append]
  congr 1
  cases h : decide (k < i) && decide (upN l i = (k : Int)) <;> simp [List.filter, h]
theorem sorted_eq {p : List Nat} (hp : p.Pairwise (· < ·)) {q : List Nat} (hq : q.Pairwise (· < ·)) (h : ∀ j, j ∈ p ↔ j ∈ q) : p = q := by
  induction p generalizing q with
  | nil => cases q with
    | nil => rfl
    | cons a q => exact absurd ((h a).2 List.mem_cons_self) (by simp)
  | cons a p ih =>
    cases q with
    | nil => exact absurd ((h a).1 List.mem_cons_self) (by simp)
    | cons b q =>
      rw [List.pairwise_cons] at hp hq
      have hab : a = b := by
        rcases List.mem_cons.1 ((h a).1 List.mem_cons_self) with e | e
        · exact e
        · have h1 := hq.1 a e
          rcases List.mem_cons.1 ((h b).2 List.mem_cons_self) with e2 | e2
          · omega
          · have := hp.1 b e2; omega
      subst hab
      congr 1
      refine ih hp.2 hq.2 fun j => ⟨fun hj => ?_, fun hj => ?_⟩
      · rcases List.mem_cons.1 ((h j).1 (List.mem_cons_of_mem _ hj)) with e | e
        · have := hp.1 j hj; omega
        · exact e
      · rcases List.mem_cons.1 ((h j).2 (List.mem_cons_of_mem _ hj)) with e | e
        · have := hq.1 j hj; omega
        · exact e

/-! A good row of nodes is a good term's. -/
structure Val (l : List Nd) : Prop where
  top : ∀ k, k < l.length → (k = 0 ↔ upN l k = -1)
  lo : ∀ k, k < l.length → -1 ≤ upN l k
  hi : ∀ k, k < l.length → upN l k ≤ (k : Int) - 1
  arn : ∀ k, k < l.length → 0 < k → ∃ a : Nat, upN l k = (a : Int) ∧ Anc l a (k - 1)
theorem Val.no {l : List Nd} (hv : Val l) {a j0 : Nat} (ha : a < j0) (hj0 : j0 < l.length) {m : Nat} (hm : upN l j0 = (m : Int)) (hn : ¬ Anc l a m) : ∀ j, j0 ≤ j → j < l.length → ¬ Anc l a j := by
  intro j
  induction j with
  | zero => intro h1; omega
  | succ j ih =>
    intro h1 h2 h3
    cases h3 with
    | refl => omega
    | @step _ m' e h =>
      by_cases hj : j0 = j + 1
      · subst hj
        have : m' = m := by omega
        subst this
        exact hn h
      · obtain ⟨b, hb, hb2⟩ := hv.arn (j + 1) h2 (by omega)
        have : m' = b := by omega
        subst this
        exact ih (by omega) (by omega) (h.trans hb2)

/-- The nodes from a place on are a term's. -/
def Seg (l : List Nd) : Lm → Nat → Int → Prop
  | .var n, a, up => a < l.length ∧ ndAt l a = ⟨1, n, up⟩
  | .lam t, a, up => (a < l.length ∧ ndAt l a = ⟨2, 0, up⟩) ∧ Seg l t (a + 1) a
  | .app s t, a, up => (a < l.length ∧ ndAt l a = ⟨3, 0, up⟩) ∧ Seg l s (a + 1) a ∧ Seg l t (a + 1 + s.sz) a
theorem Seg.flat {l : List Nd} : ∀ {t : Lm} {a : Nat} {up : Int}, Seg l t a up → l.drop a = t.flat a up ++ l.drop (a + t.sz)
  | .var n, a, up, h => by
    rw [Seg] at h
    have h1 : ndAt l a = l[a]'h.1 := by unfold ndAt; simp [List.getD, List.getElem?_eq_getElem h.1]
    rw [List.drop_eq_getElem_cons h.1, ← h1, h.2]; rfl
  | .lam t, a, up, h => by
    rw [Seg] at h
    have h1 : ndAt l a = l[a]'h.1.1 := by unfold ndAt; simp [List.getD, List.getElem?_eq_getElem h.1.1]
    rw [List.drop_eq_getElem_cons h.1.1, ← h1, h.1.2, h.2.flat, Lm.flat, Lm.sz, show a + (t.sz + 1) = a + 1 + t.sz by omega]; rfl
  | .app s t, a, up, h => by
    rw [Seg] at h
    have h1 : ndAt l a = l[a]'h.1.1 := by unfold ndAt; simp [List.getD, List.getElem?_eq_getElem h.1.1]
    rw [List.drop_eq_getElem_cons h.1.1, ← h1, h.1.2, h.2.1.flat, h.2.2.flat, Lm.flat, Lm.sz, show a + (s.sz + t.sz + 1) = a + 1 + s.sz + t.sz by omega]; simp
theorem Seg.of {l : List Nd} : ∀ {t : Lm} {a : Nat} {up : Int} {pre post : List Nd}, l = pre ++ t.flat a up ++ post → pre.length = a → Seg l t a up
  | .var n, a, up, pre, post, hl, ha => by
    rw [Seg]
    refine ⟨by rw [hl, List.length_append, List.length_append, ha, Lm.flat_sz]; simp [Lm.sz]; omega, ndAt_app' (by rw [hl, Lm.flat, List.append_assoc]; rfl) ha.symm⟩
  | .lam t, a, up, pre, post, hl, ha => by
    rw [Seg]
    refine ⟨⟨by rw [hl, List.length_append, List.length_append, ha, Lm.flat_sz]; simp [Lm.sz]; omega, ndAt_app' (post := t.flat (a + 1) a ++ post) (by rw [hl, Lm.flat, List.append_assoc]; rfl) ha.symm⟩, ?_⟩
    exact Seg.of (pre := pre ++ [⟨2, 0, up⟩]) (post := post) (by rw [hl, Lm.flat]; simp) (by simp [ha])
  | .app s t, a, up, pre, post, hl, ha => by
    rw [Seg]
    refine ⟨⟨by rw [hl, List.length_append, List.length_append, ha, Lm.flat_sz]; simp [Lm.sz]; omega, ndAt_app' (post := s.flat (a + 1) a ++ t.flat (a + 1 + s.sz) a ++ post) (by rw [hl, Lm.flat, List.append_assoc]; rfl) ha.symm⟩, ?_, ?_⟩
    · exact Seg.of (pre := pre ++ [⟨3, 0, up⟩]) (post := t.flat (a + 1 + s.sz) a ++ post) (by rw [hl, Lm.flat]; simp) (by simp [ha])
    · exact Seg.of (pre := pre ++ [⟨3, 0, up⟩] ++ s.flat (a + 1) a) (post := post) (by rw [hl, Lm.flat]; simp) (by simp [ha, Lm.flat_sz]; omega)
theorem Seg.whole (t : Lm) : Seg (t.flat 0 (-1)) t 0 (-1) := Seg.of (pre := []) (post := []) (by simp) rfl
theorem Seg.le {l : List Nd} : ∀ {t : Lm} {a : Nat} {up : Int}, Seg l t a up → a + t.sz ≤ l.length
  | .var n, a, up, h => by rw [Seg] at h; simp only [Lm.sz]; omega
  | .lam t, a, up, h => by rw [Seg] at h; have := h.2.le; simp only [Lm.sz]; omega
  | .app s t, a, up, h => by rw [Seg] at h; have := h.2.2.le; simp only [Lm.sz]; omega
theorem Seg.lt {l : List Nd} {t : Lm} {a : Nat} {up : Int} (h : Seg l t a up) : a < l.length := by have := h.le; have := t.sz_pos; omega
def Lm.kd : Lm → Int | .var _ => 1 | .lam _ => 2 | .app _ _ => 3
def Lm.nm : Lm → Int | .var n => n | .lam _ => 0 | .app _ _ => 0
theorem Seg.nd {l : List Nd} : ∀ {t : Lm} {a : Nat} {up : Int}, Seg l t a up → ndAt l a = ⟨t.kd, t.nm, up⟩
  | .var n, a, up, h => by rw [Seg] at h; exact h.2
  | .lam t, a, up, h => by rw [Seg] at h; exact h.1.2
  | .app s t, a, up, h => by rw [Seg] at h; exact h.1.2
theorem Seg.up {l : List Nd} {t : Lm} {a : Nat} {up : Int} (h : Seg l t a up) : upN l a = up := by unfold upN; rw [h.nd]
/-- What is up of the nodes within. -/
theorem Seg.ups {l : List Nd} : ∀ {t : Lm} {a : Nat} {up : Int}, Seg l t a up → ∀ j, a < j → j < a + t.sz → (a : Int) ≤ upN l j ∧ upN l j < (j : Int)
  | .var n, a, up, h, j, h1, h2 => by simp [Lm.sz] at h2; omega
  | .lam t, a, up, h, j, h1, h2 => by
    rw [Seg] at h
    simp only [Lm.sz] at h2
    by_cases hj : j = a + 1
    · rw [hj, h.2.up]; omega
    · have := h.2.ups j (by omega) (by omega); omega
  | .app s t, a, up, h, j, h1, h2 => by
    rw [Seg] at h
    simp only [Lm.sz] at h2
    by_cases hj : j = a + 1
    · rw [hj, h.2.1.up]; omega
    · by_cases hj2 : j < a + 1 + s.sz
      · have := h.2.1.ups j (by omega) (by omega); omega
      · by_cases hj3 : j = a + 1 + s.sz
        · rw [hj3, h.2.2.up]; have := s.sz_pos; omega
        · have := h.2.2.ups j (by omega) (by omega); omega
theorem Seg.anc {l : List Nd} : ∀ {t : Lm} {a : Nat} {up : Int}, Seg l t a up → ∀ j, a ≤ j → j < a + t.sz → Anc l a j
  | .var n, a, up, h, j, h1, h2 => by
    simp [Lm.sz] at h2
    have : j = a := by omega
    subst this; exact .refl
  | .lam t, a, up, h, j, h1, h2 => by
    rw [Seg] at h
    simp only [Lm.sz] at h2
    by_cases hj : j = a
    · subst hj; exact .refl
    · exact (Anc.step h.2.up .refl).trans (h.2.anc j (by omega) (by omega))
  | .app s t, a, up, h, j, h1, h2 => by
    rw [Seg] at h
    simp only [Lm.sz] at h2
    by_cases hj : j = a
    · subst hj; exact .refl
    · by_cases hj2 : j < a + 1 + s.sz
      · exact (Anc.step h.2.1.up .refl).trans (h.2.1.anc j (by omega) (by omega))
      · exact (Anc.step h.2.2.up .refl).trans (h.2.2.anc j (by omega) (by omega))
theorem Seg.arn {l : List Nd} : ∀ {t : Lm} {a : Nat} {up : Int}, Seg l t a up → ∀ j, a < j → j < a + t.sz → ∃ b : Nat, upN l j = (b : Int) ∧ Anc l b (j - 1)
  | .var n, a, up, h, j, h1, h2 => by simp [Lm.sz] at h2; omega
  | .lam t, a, up, h, j, h1, h2 => by
    rw [Seg] at h
    simp only [Lm.sz] at h2
    by_cases hj : j = a + 1
    · subst hj; exact ⟨a, h.2.up, .refl⟩
    · exact h.2.arn j (by omega) (by omega)
  | .app s t, a, up, h, j, h1, h2 => by
    rw [Seg] at h
    simp only [Lm.sz] at h2
    by_cases hj : j = a + 1
    · subst hj; exact ⟨a, h.2.1.up, .refl⟩
    · by_cases hj2 : j < a + 1 + s.sz
      · exact h.2.1.arn j (by omega) (by omega)
      · by_cases hj3 : j = a + 1 + s.sz
        · subst hj3
          have := s.sz_pos
          exact ⟨a, h.2.2.up, (Anc.step h.2.1.up .refl).trans (h.2.1.anc _ (by omega) (by omega))⟩
        · exact h.2.2.arn j (by omega) (by omega)
theorem Seg.dpt {l : List Nd} : ∀ {t : Lm} {a : Nat} {up : Int}, Seg l t a up → ∀ d, Dpt l a d → ∀ j, a ≤ j → j < a + t.sz → ∃ e, Dpt l j e ∧ e + 1 ≤ d + t.dp
  | .var n, a, up, h, d, hd, j, h1, h2 => by
    simp [Lm.sz] at h2
    have : j = a := by omega
    subst this; exact ⟨d, hd, by simp [Lm.dp]⟩
  | .lam t, a, up, h, d, hd, j, h1, h2 => by
    rw [Seg] at h
    simp only [Lm.sz] at h2
    simp only [Lm.dp]
    by_cases hj : j = a
    · subst hj; exact ⟨d, hd, by omega⟩
    · obtain ⟨e, h3, h4⟩ := h.2.dpt (d + 1) (.step h.2.up hd) j (by omega) (by omega)
      exact ⟨e, h3, by omega⟩
  | .app s t, a, up, h, d, hd, j, h1, h2 => by
    rw [Seg] at h
    simp only [Lm.sz] at h2
    simp only [Lm.dp]
    by_cases hj : j = a
    · subst hj; exact ⟨d, hd, by omega⟩
    · by_cases hj2 : j < a + 1 + s.sz
      · obtain ⟨e, h3, h4⟩ := h.2.1.dpt (d + 1) (.step h.2.1.up hd) j (by omega) (by omega)
        exact ⟨e, h3, by omega⟩
      · obtain ⟨e, h3, h4⟩ := h.2.2.dpt (d + 1) (.step h.2.2.up hd) j (by omega) (by omega)
        exact ⟨e, h3, by omega⟩
/-- No part of a term stands behind it. -/
def Shut (l : List Nd) (a n : Nat) : Prop := ∀ i, a + n ≤ i → i < l.length → upN l i < (a : Int) ∨ (a : Int) + n ≤ upN l i
theorem Shut.lam {l : List Nd} {t : Lm} {a : Nat} {up : Int} (h : Seg l (.lam t) a up) (hs : Shut l a (Lm.lam t).sz) : Shut l (a + 1) t.sz := by
  intro i h1 h2
  rw [Seg] at h
  simp only [Lm.sz, Shut] at hs
  have := hs i (by omega) h2
  omega
theorem Shut.app1 {l : List Nd} {s t : Lm} {a : Nat} {up : Int} (h : Seg l (.app s t) a up) (hs : Shut l a (Lm.app s t).sz) : Shut l (a + 1) s.sz := by
  intro i h1 h2
  rw [Seg] at h
  simp only [Lm.sz, Shut] at hs
  by_cases hi : i < a + 1 + s.sz + t.sz
  · by_cases h3 : i = a + 1 + s.sz
    · rw [h3, h.2.2.up]; omega
    · have := h.2.2.ups i (by omega) (by omega); omega
  · have := hs i (by omega) h2
    omega
theorem Shut.app2 {l : List Nd} {s t : Lm} {a : Nat} {up : Int} (h : Seg l (.app s t) a up) (hs : Shut l a (Lm.app s t).sz) : Shut l (a + 1 + s.sz) t.sz := by
  intro i h1 h2
  rw [Seg] at h
  simp only [Lm.sz, Shut] at hs
  have := hs i (by omega) h2
  omega
/-- Where a term's parts begin. -/
def Lm.kidsAt : Lm → Nat → List Nat
  | .var _, _ => []
  | .lam _, a => [a + 1]
  | .app s _, a => [a + 1, a + 1 + s.sz]
theorem Seg.parts {l : List Nd} {t : Lm} {a : Nat} {up : Int} (h : Seg l t a up) (hs : Shut l a t.sz) : partsTo l a l.length = t.kidsAt a := by
  refine sorted_eq (partsTo_sorted _ _ _) ?_ ?_
  · cases t with
    | var n => exact List.Pairwise.nil
    | lam t => simp [Lm.kidsAt]
    | app s t => have := s.sz_pos; simp [Lm.kidsAt]; omega
  · intro j
    rw [partsTo_mem]
    cases t with
    | var n =>
      simp only [Lm.kidsAt, List.not_mem_nil, iff_false]
      rintro ⟨h1, h2, h3⟩
      have := hs j (by simp only [Lm.sz]; omega) h1
      simp only [Lm.sz] at this
      omega
    | lam t =>
      have hh := h
      rw [Seg] at h
      have hle := h.2.le
      have := t.sz_pos
      simp only [Lm.kidsAt, List.mem_singleton]
      constructor
      · rintro ⟨h1, h2, h3⟩
        by_cases hj : j = a + 1
        · exact hj
        · by_cases hj2 : j < a + 1 + t.sz
          · have := h.2.ups j (by omega) hj2; omega
          · have := hs j (by simp only [Lm.sz]; omega) h1
            simp only [Lm.sz] at this
            omega
      · rintro rfl
        exact ⟨by omega, by omega, h.2.up⟩
    | app s t =>
      rw [Seg] at h
      have hle := h.2.2.le
      have := t.sz_pos
      have := s.sz_pos
      simp only [Lm.kidsAt, List.mem_cons, List.not_mem_nil, or_false]
      constructor
      · rintro ⟨h1, h2, h3⟩
        by_cases hj : j = a + 1
        · exact .inl hj
        · by_cases hj2 : j < a + 1 + s.sz
          · have := h.2.1.ups j (by omega) hj2; omega
          · by_cases hj3 : j = a + 1 + s.sz
            · exact .inr hj3
            · by_cases hj4 : j < a + 1 + s.sz + t.sz
              · have := h.2.2.ups j (by omega) hj4; omega
              · have := hs j (by simp only [Lm.sz]; omega) h1
                simp only [Lm.sz] at this
                omega
      · rintro (rfl | rfl)
        · exact ⟨by omega, by omega, h.2.1.up⟩
        · exact ⟨by omega, by omega, h.2.2.up⟩
def ndOk (l : List Nd) (k : Nat) : Prop := ((ndAt l k).k = 1 ∨ (ndAt l k).k = 2 ∨ (ndAt l k).k = 3) ∧ (partsTo l k l.length).length = wantN (ndAt l k).k ∧ (0 ≤ (ndAt l k).n ∧ (ndAt l k).n ≤ 99) ∧ ((ndAt l k).k = 1 ∨ (ndAt l k).n = 0)
theorem Seg.ndOk {l : List Nd} : ∀ {t : Lm} {a : Nat} {up : Int}, Seg l t a up → Shut l a t.sz → t.ok = true → ∀ j, a ≤ j → j < a + t.sz → ndOk l j
  | .var n, a, up, h, hs, hok, j, h1, h2 => by
    simp only [Lm.sz] at h2
    have : j = a := by omega
    subst this
    simp only [Lm.ok, Bool.and_eq_true, decide_eq_true_eq] at hok
    unfold Go.Proofs.YtgolfbjfopoeeaaDoor.ndOk
    rw [h.parts hs, h.nd]
    exact ⟨.inl rfl, rfl, hok, .inl rfl⟩
  | .lam t, a, up, h, hs, hok, j, h1, h2 => by
    by_cases hj : j = a
    · subst hj
      unfold Go.Proofs.YtgolfbjfopoeeaaDoor.ndOk
      rw [h.parts hs, h.nd]
      exact ⟨.inr (.inl rfl), rfl, ⟨Int.le_refl _, by simp [Lm.nm]⟩, .inr rfl⟩
    · have hs' := hs.lam h
      rw [Seg] at h
      simp only [Lm.sz] at h2
      exact h.2.ndOk hs' hok j (by omega) (by omega)
  | .app s t, a, up, h, hs, hok, j, h1, h2 => by
    by_cases hj : j = a
    · subst hj
      unfold Go.Proofs.YtgolfbjfopoeeaaDoor.ndOk
      rw [h.parts hs, h.nd]
      exact ⟨.inr (.inr rfl), rfl, ⟨Int.le_refl _, by simp [Lm.nm]⟩, .inr rfl⟩
    · have hs1 := hs.app1 h
      have hs2 := hs.app2 h
      rw [Seg] at h
      simp only [Lm.sz] at h2
      simp only [Lm.ok, Bool.and_eq_true] at hok
      by_cases hj2 : j < a + 1 + s.sz
      · exact h.2.1.ndOk hs1 hok.1 j (by omega) (by omega)
      · exact h.2.2.ndOk hs2 hok.2 j (by omega) (by omega)

theorem Val.none {l : List Nd} (hv : Val l) {a e b : Nat} (hae : a < e) (he : e < l.length) (hb : upN l e = (b : Int)) (hba : Anc l b a) (hne : b ≠ a) : ∀ j, e ≤ j → j < l.length → upN l j ≠ (a : Int) := by
  intro j h1 h2 h3
  have hle : b ≤ a := hba.le l.length (by omega) hv.hi
  have hno : ¬ Anc l a b := fun h => by have := h.le l.length (by omega) hv.hi; omega
  exact hv.no hae he hb hno j h1 h2 (.step h3 .refl)
theorem Val.first {l : List Nd} (hv : Val l) {a j : Nat} (h1 : a < j) (h2 : j < l.length) (h3 : upN l j = (a : Int)) : upN l (a + 1) = (a : Int) := by
  obtain ⟨b, hb, hba⟩ := hv.arn (a + 1) (by omega) (by omega)
  by_cases h : b = a
  · rw [hb, h]
  · exact absurd h3 (hv.none (by omega) (by omega) hb hba h j (by omega) h2)
theorem one_of {p : List Nat} (h : p.length = 1) {x y : Nat} (hx : x ∈ p) (hy : y ∈ p) : x = y := by
  match p, h with
  | [z], _ => simp at hx hy; omega
theorem two_of {p : List Nat} (h : p.length = 2) {x y z : Nat} (hx : x ∈ p) (hy : y ∈ p) (hz : z ∈ p) : x = y ∨ x = z ∨ y = z := by
  match p, h with
  | [a, b], _ => simp at hx hy hz; omega
theorem two_of_two {p : List Nat} (hp : p.Pairwise (· < ·)) (h : p.length = 2) : ∃ x y, x ∈ p ∧ y ∈ p ∧ x < y := by
  match p, h with
  | [a, b], _ => exact ⟨a, b, by simp, by simp, by simpa using hp⟩
theorem build {l : List Nd} (hv : Val l) (hn : ∀ k, k < l.length → ndOk l k) (hd : ∀ k, k < l.length → ∀ d, Dpt l k d → d ≤ 40) : ∀ (m a : Nat), l.length - a ≤ m → a < l.length →
    ∃ t : Lm, Seg l t a (upN l a) ∧ t.ok = true ∧ (a + t.sz = l.length ∨ (a + t.sz < l.length ∧ ∃ b : Nat, upN l (a + t.sz) = (b : Int) ∧ Anc l b a ∧ b ≠ a)) ∧ ∀ d, Dpt l a d → d + t.dp ≤ 41 := by
  intro m
  induction m with
  | zero => intro a h1 h2; omega
  | succ m ih =>
    intro a h1 h2
    obtain ⟨hk, hp, hr, hz⟩ := hn a h2
    have hnd : ndAt l a = ⟨(ndAt l a).k, (ndAt l a).n, upN l a⟩ := rfl
    rcases hk with hk | hk | hk
    · rw [hk] at hp
      have hp0 : partsTo l a l.length = [] := List.length_eq_zero_iff.1 (by rw [hp]; rfl)
      refine ⟨.var (ndAt l a).n, ?_, by simp [Lm.ok, hr], ?_, fun d hD => ?_⟩
      · rw [Seg]; exact ⟨h2, by rw [hnd, hk]⟩
      · simp only [Lm.sz]
        by_cases he : a + 1 = l.length
        · exact .inl he
        · obtain ⟨b, hb, hba⟩ := hv.arn (a + 1) (by omega) (by omega)
          refine .inr ⟨by omega, b, hb, hba, ?_⟩
          rintro rfl
          have : b + 1 ∈ partsTo l b l.length := partsTo_mem.2 ⟨by omega, by omega, hb⟩
          rw [hp0] at this
          simp at this
      · have := hd a h2 d hD; simp only [Lm.dp]; omega
    · have hz0 : (ndAt l a).n = 0 := by rcases hz with h | h; omega; exact h
      rw [hk] at hp
      have hp1 : (partsTo l a l.length).length = 1 := by rw [hp]; rfl
      obtain ⟨j, hj⟩ : ∃ j, j ∈ partsTo l a l.length := by
        cases hq : partsTo l a l.length with
        | nil => rw [hq] at hp1; simp at hp1
        | cons x xs => exact ⟨x, List.mem_cons_self⟩
      have hj' := partsTo_mem.1 hj
      have hf := hv.first hj'.2.1 hj'.1 hj'.2.2
      obtain ⟨t, g1, g2, g3, g4⟩ := ih (a + 1) (by omega) (by omega)
      rw [hf] at g1
      refine ⟨.lam t, ?_, g2, ?_, fun d hD => ?_⟩
      · rw [Seg]; exact ⟨⟨h2, by rw [hnd, hk, hz0]⟩, g1⟩
      · simp only [Lm.sz]
        rw [show a + (t.sz + 1) = a + 1 + t.sz by omega]
        rcases g3 with g3 | ⟨g3, b, hb, hba, hbn⟩
        · exact .inl g3
        · refine .inr ⟨g3, b, hb, ?_, ?_⟩
          · cases hba with
            | refl => exact absurd rfl hbn
            | @step _ m' e h => rw [hf] at e; have : m' = a := by omega
                                subst this; exact h
          · rintro rfl
            have := t.sz_pos
            have hx : b + 1 ∈ partsTo l b l.length := partsTo_mem.2 ⟨by omega, by omega, hf⟩
            have hy : b + 1 + t.sz ∈ partsTo l b l.length := partsTo_mem.2 ⟨by omega, by omega, hb⟩
            have := one_of hp1 hx hy
            omega
      · have := g4 (d + 1) (.step hf hD); simp only [Lm.dp]; omega
    · have hz0 : (ndAt l a).n = 0 := by rcases hz with h | h; omega; exact h
      rw [hk] at hp
      have hp1 : (partsTo l a l.length).length = 2 := by rw [hp]; rfl
      obtain ⟨x, y, hx, hy, hxy⟩ := two_of_two (partsTo_sorted _ _ _) hp1
      have hx' := partsTo_mem.1 hx
      have hy' := partsTo_mem.1 hy
      have hf := hv.first hx'.2.1 hx'.1 hx'.2.2
      obtain ⟨s, g1, g2, g3, g4⟩ := ih (a + 1) (by omega) (by omega)
      rw [hf] at g1
      have hsp := s.sz_pos
      have hle1 := g1.le
      have he1 : a + 1 + s.sz < l.length ∧ upN l (a + 1 + s.sz) = (a : Int) := by
        have key : ∀ j, j ∈ partsTo l a l.length → j ≠ a + 1 → a + 1 + s.sz ≤ j := by
          intro j hj hne
          have hj' := partsTo_mem.1 hj
          by_cases h : j < a + 1 + s.sz
          · have := g1.ups j (by omega) h; omega
          · omega
        have hyk := key y hy (by omega)
        rcases g3 with g3 | ⟨g3, b, hb, hba, hbn⟩
        · omega
        · refine ⟨g3, ?_⟩
          have hba' : Anc l b a := by
            cases hba with
            | refl => exact absurd rfl hbn
            | @step _ m' e h => rw [hf] at e; have : m' = a := by omega
                                subst this; exact h
          by_cases hbe : b = a
          · rw [hb, hbe]
          · exact absurd hy'.2.2 (hv.none (by omega) g3 hb hba' hbe y hyk hy'.1)
      obtain ⟨t, k1, k2, k3, k4⟩ := ih (a + 1 + s.sz) (by omega) he1.1
      rw [he1.2] at k1
      have htp := t.sz_pos
      refine ⟨.app s t, ?_, by simp [Lm.ok, g2, k2], ?_, fun d hD => ?_⟩
      · rw [Seg]; exact ⟨⟨h2, by rw [hnd, hk, hz0]⟩, g1, k1⟩
      · simp only [Lm.sz]
        rw [show a + (s.sz + t.sz + 1) = a + 1 + s.sz + t.sz by omega]
        rcases k3 with k3 | ⟨k3, b, hb, hba, hbn⟩
        · exact .inl k3
        · refine .inr ⟨k3, b, hb, ?_, ?_⟩
          · cases hba with
            | refl => exact absurd rfl hbn
            | @step _ m' e h => rw [he1.2] at e; have : m' = a := by omega
                                subst this; exact h
          · rintro rfl
            have q1 : b + 1 ∈ partsTo l b l.length := partsTo_mem.2 ⟨by omega, by omega, hf⟩
            have q2 : b + 1 + s.sz ∈ partsTo l b l.length := partsTo_mem.2 ⟨by omega, by omega, he1.2⟩
            have q3 : b + 1 + s.sz + t.sz ∈ partsTo l b l.length := partsTo_mem.2 ⟨by omega, by omega, hb⟩
            have := two_of hp1 q1 q2 q3
            omega
      · have := g4 (d + 1) (.step hf hD); have := k4 (d + 1) (.step he1.2 hD); simp only [Lm.dp]; omega
theorem Val.dpt {l : List Nd} (hv : Val l) : ∀ k, k < l.length → ∃ d, Dpt l k d := by
  intro k
  induction k using Nat.strongRecOn with
  | ind k ih =>
    intro hk
    by_cases h : upN l k < 0
    · exact ⟨1, .top h⟩
    · have := hv.hi k hk
      obtain ⟨m, hm⟩ : ∃ m : Nat, upN l k = (m : Int) := ⟨(upN l k).toNat, by omega⟩
      obtain ⟨d, hd⟩ := ih m (by omega) (by omega)
      exact ⟨d + 1, .step hm hd⟩
/-- A row of nodes is good if, and only if, it is a good term's. -/
theorem goodS_iff (l : List Nd) : goodS l = true ↔ ∃ t : Lm, l = t.flat 0 (-1) ∧ t.good = true := by
  unfold goodS
  simp only [Bool.and_eq_true, decide_eq_true_eq, List.all_eq_true, List.mem_range]
  constructor
  · rintro ⟨⟨h1, h2⟩, h⟩
    have hk : ∀ k, k < l.length → ((k = 0 ↔ upN l k = -1) ∧ -1 ≤ upN l k ∧ upN l k ≤ (k : Int) - 1) ∧ (k = 0 ∨ ancF l (upN l k) k ((k : Int) - 1) = true) ∧ dpF l (k + 1) k ≤ 40 ∧ ndOk l k := by
      intro k hk
      have := h k hk
      unfold nodeOk at this
      simp only [Bool.and_eq_true, Bool.or_eq_true, decide_eq_true_eq, beq_iff_eq, decide_eq_decide] at this
      obtain ⟨⟨a1, a2⟩, a3, a4, a5, a6, a7, a8⟩ := this
      exact ⟨⟨a1, a2⟩, a4, a5, a3, a6, a7, a8⟩
    have hv : Val l := by
      refine ⟨fun k h => (hk k h).1.1, fun k h => (hk k h).1.2.1, fun k h => (hk k h).1.2.2, fun k h h0 => ?_⟩
      rcases (hk k h).2.1 with e | e
      · omega
      · have hc : (k : Int) - 1 = ((k - 1 : Nat) : Int) := by omega
        rw [hc] at e
        exact (ancF_iff k (k - 1) (by omega) (fun j hj => (hk j (by omega)).1.2.2)).1 e
    have hd : ∀ k, k < l.length → ∀ d, Dpt l k d → d ≤ 40 := fun k h d hD => by
      have := (hk k h).2.2.1
      rw [dpF_of hD (k + 1) (by omega) (fun j hj => (hk j (by omega)).1.2.2)] at this
      exact this
    obtain ⟨t, g1, g2, g3, g4⟩ := build hv (fun k h => (hk k h).2.2.2) hd l.length 0 (by omega) (by omega)
    have hu : upN l 0 = -1 := (hv.top 0 (by omega)).1 rfl
    have hsz : t.sz = l.length := by
      rcases g3 with g3 | ⟨g3, b, hb, hba, hbn⟩
      · omega
      · have := hba.le l.length (by omega) hv.hi; omega
    rw [hu] at g1
    have hfl := g1.flat
    rw [List.drop_zero, List.drop_eq_nil_of_le (by omega), List.append_nil] at hfl
    refine ⟨t, hfl, ?_⟩
    have := g4 1 (.top (by omega))
    simp only [Lm.good, Bool.and_eq_true, decide_eq_true_eq]
    exact ⟨g2, by omega, by omega⟩
  · rintro ⟨t, hl, hg⟩
    simp only [Lm.good, Bool.and_eq_true, decide_eq_true_eq] at hg
    have hlen : l.length = t.sz := by rw [hl, Lm.flat_sz]
    have hseg : Seg l t 0 (-1) := by rw [hl]; exact Seg.whole t
    have hsp := t.sz_pos
    refine ⟨by omega, fun k hk => ?_⟩
    have hups : ∀ j, j < l.length → upN l j ≤ (j : Int) - 1 := fun j hj => by
      by_cases h : j = 0
      · rw [h, hseg.up]; omega
      · have := hseg.ups j (by omega) (by omega); omega
    have hno := hseg.ndOk (fun i h1 h2 => by omega) hg.1 k (by omega) (by omega)
    obtain ⟨e, he, he2⟩ := hseg.dpt 1 (.top (by rw [hseg.up]; omega)) k (by omega) (by omega)
    unfold nodeOk
    simp only [Bool.and_eq_true, Bool.or_eq_true, decide_eq_true_eq, beq_iff_eq, decide_eq_decide]
    refine ⟨⟨⟨fun h => by rw [h, hseg.up], fun h => ?_⟩, ?_, hups k hk⟩, hno.1, ?_, ?_, hno.2.1, hno.2.2⟩
    · by_cases h0 : k = 0
      · exact h0
      · have := hseg.ups k (by omega) (by omega); omega
    · by_cases h0 : k = 0
      · rw [h0, hseg.up]; omega
      · have := hseg.ups k (by omega) (by omega); omega
    · by_cases h0 : k = 0
      · exact .inl h0
      · right
        have hc : (k : Int) - 1 = ((k - 1 : Nat) : Int) := by omega
        rw [hc]
        exact (ancF_iff k (k - 1) (by omega) (fun j hj => hups j (by omega))).2 (hseg.arn k (by omega) (by omega))
    · rw [dpF_of he (k + 1) (by omega) (fun j hj => hups j (by omega))]; omega
theorem goodS_read (l : List Nd) : goodS l = (readP' l).isSome := by
  cases h : readP' l with
  | some t =>
    exact (goodS_iff l).2 ⟨t, (readP'_iff l t).1 h⟩
  | none =>
    cases hg : goodS l with
    | false => rfl
    | true =>
      obtain ⟨t, ht⟩ := (goodS_iff l).1 hg
      rw [(readP'_iff l t).2 ht] at h
      cases h
theorem goodS_flat (t : Lm) : goodS (t.flat 0 (-1)) = t.good := by
  cases hg : t.good with
  | true => exact (goodS_iff _).2 ⟨t, rfl, hg⟩
  | false =>
    cases h : goodS (t.flat 0 (-1)) with
    | false => rfl
    | true =>
      obtain ⟨s, h1, h2⟩ := (goodS_iff _).1 h
      have := Lm.flat_same h1
      subst this
      rw [hg] at h2; cases h2
end Go.Proofs.YtgolfbjfopoeeaaDoor
