/-
  Drawn regions whose stores may come up early: what a later load reads holds till the store that turns it came up.
-/
import Derived.Test.YthbnacikomimfaaDoorBaseLate
namespace Go.Proofs.YthbnacikomimfaaDoor.BL
open Go.RowKit Go.Proofs.YthbnacikomimfaaDoor
set_option linter.unusedVariables false

section
variable {P : Program} {ops : Array Oper} {Q : Exit → Act → World → Prop} {md : Region.Mode} {ps : List (Nat × (World → Prop))} {S : World → Prop}

/-- S holds, and each of the others till its own store came up. -/
def LateAll (ps : List (Nat × (World → Prop))) (S : World → Prop) (L : Array Bool) (w : World) : Prop := S w ∧ ∀ p ∈ ps, L.getD p.1 false = true ∨ p.2 w

def wpAnyM (P : Program) (md : Region.Mode) (ops : Array Oper) (Q : Exit → Act → World → Prop) (ps : List (Nat × (World → Prop))) (S : World → Prop) : Nat → Array Bool → Act → World → Prop
  | 0, listed, a, w => Region.ready md ops listed = [] ∧ Q .normal a w
  | fuel + 1, listed, a, w =>
    (Region.ready md ops listed = [] → Q .normal a w) ∧
    ∀ i ∈ Region.ready md ops listed, wpOp P ops Q i (fun a' w' => LateAll ps S (listed.setIfInBounds i true) w' ∧ wpAnyM P md ops Q ps S fuel (listed.setIfInBounds i true) a' w') a w

theorem wpAny_of_many : ∀ (fuel : Nat) (listed : Array Bool) (a : Act) (w : World), wpAnyM P md ops Q ps S fuel listed a w → wpAny P md ops Q fuel listed a w
  | 0, _, _, _, h => h
  | fuel + 1, _, _, _, h => ⟨h.1, fun i hi => wpOp_mono (fun a' w' h' => wpAny_of_many fuel _ a' w' h'.2) (h.2 i hi)⟩

theorem LateAll.set {L : Array Bool} {w : World} {i : Nat} (h : LateAll ps S L w) : LateAll ps S (L.setIfInBounds i true) w := ⟨h.1, fun p hp => (h.2 p hp).imp (fun h => by
  by_cases e : i = p.1
  · subst e
    rcases Nat.lt_or_ge p.1 L.size with h' | h'
    · simp [h']
    · simp [Array.getElem?_eq_none h'] at h
  · rw [getD_set_ne false e]; exact h) id⟩
theorem LateAll.unset {L : Array Bool} {w : World} {i : Nat} (hni : ∀ p ∈ ps, p.1 ≠ i) (h : LateAll ps S (L.setIfInBounds i true) w) : LateAll ps S L w := ⟨h.1, fun p hp => (h.2 p hp).imp (fun h => by
  rw [getD_set_ne false (Ne.symm (hni p hp))] at h; exact h) id⟩

theorem wpAnyM_first {i : Nat} {oi : Oper} {v : Value} (hi : ops[i]? = some oi) (hsel : ∀ (j : Nat) (o : Oper) cs b, ops[j]? = some o → o.op ≠ .select cs b)
    (hQ : ∀ c a w, Q (.panic c) (a.put oi.dst v) w → Q (.panic c) a w) (W : List Nat) (hil : i ∉ W) (hni : ∀ p ∈ ps, p.1 ≠ i) (hwait : ∀ k ∈ W, ∀ ok, ops[k]? = some ok → ∃ e ∈ ok.after, Region.binds md e = true ∧ (e.on = i ∨ e.on ∈ W)) :
    ∀ (fuel : Nat) (listed : Array Bool) (a : Act) (w : World),
      (∀ j oj, ops[j]? = some oj → j ≠ i → listed.getD j true = false → (∀ e ∈ oj.after, Region.binds md e = true → e.on ≠ i) → oi.apart ops oj = true) →
      (∀ k ∈ W, listed.getD k false = false) → i ∈ Region.ready md ops listed → YieldsIf P ops (fun w => S w ∧ ∀ p ∈ ps, p.1 ∈ W → p.2 w) oi v a → LateAll ps S listed w →
      wpAnyM P md ops Q ps S fuel (listed.setIfInBounds i true) (a.put oi.dst v) w → wpAnyM P md ops Q ps S (fuel + 1) listed a w := by
  have key : ∀ (L : Array Bool) (w : World), (∀ k ∈ W, L.getD k false = false) → LateAll ps S L w → S w ∧ ∀ p ∈ ps, p.1 ∈ W → p.2 w := fun L w hW h => ⟨h.1, fun p hp hpW => (h.2 p hp).resolve_left (by rw [hW _ hpW]; simp)⟩
  intro fuel
  induction fuel with
  | zero =>
    intro listed a w _ hW hr hy hS H
    refine ⟨fun h => (by rw [h] at hr; cases hr), fun j hj => ?_⟩
    by_cases hji : j = i
    · subst hji; exact hy.wpOp hi (key _ _ hW hS) ⟨hS.set, H⟩
    · have := ready_mono hj hji
      rw [H.1] at this
      cases this
  | succ fuel ih =>
    intro listed a w hfree hlate hr hy hS H
    refine ⟨fun h => (by rw [h] at hr; cases hr), fun j hj => ?_⟩
    by_cases hji : j = i
    · subst hji; exact hy.wpOp hi (key _ _ hlate hS) ⟨hS.set, H⟩
    · have h1 := H.2 j (ready_mono hj hji)
      obtain ⟨hjun, oj, hoj, hall⟩ := mem_ready.1 hj
      have hnot : ∀ e ∈ oj.after, Region.binds md e = true → e.on ≠ i := fun e he hb heq => by
        have h1 := hall e he hb
        have h0 := (mem_ready.1 hr).1
        rw [heq] at h1
        rcases Nat.lt_or_ge i listed.size with h' | h'
        · simp [h'] at h0 h1; rw [h0] at h1; cases h1
        · simp [Array.getElem?_eq_none h'] at h1
      have hjl : j ∉ W := fun hj' => by
        obtain ⟨e, he, hb, heq⟩ := hwait j hj' oj hoj
        rcases heq with heq | heq
        · exact hnot e he hb heq
        · have := hall e he hb
          rw [hlate _ heq] at this
          cases this
      have h2 := wpOp_putIf hoj (hfree j oj hoj hji hjun hnot) (fun cs b => hsel i oi cs b hi) (fun cs b => hsel j oj cs b hoj) hQ hy h1
      have hfree' : ∀ k ok, ops[k]? = some ok → k ≠ i → (listed.setIfInBounds j true).getD k true = false →
          (∀ e ∈ ok.after, Region.binds md e = true → e.on ≠ i) → oi.apart ops ok = true := fun k ok hk hki hun hno => by
        refine hfree k ok hk hki ?_ hno
        by_cases hjk : j = k
        · subst hjk; exact hjun
        · rw [getD_set_ne true hjk] at hun; exact hun
      have hlate' : ∀ k ∈ W, (listed.setIfInBounds j true).getD k false = false := fun k hk => by
        rw [getD_set_ne false (fun e => hjl (by rw [e]; exact hk))]; exact hlate k hk
      refine wpOp_mono (fun a' w' h3 => ?_) h2
      have hS' : LateAll ps S (listed.setIfInBounds j true) w' := by
        have := h3.2.1
        rw [Array.setIfInBounds_comm _ _ (Ne.symm hji)] at this
        exact this.unset hni
      refine ⟨hS', ih (listed.setIfInBounds j true) a' w' hfree' hlate' (ready_mono hr (Ne.symm hji)) h3.1 hS' ?_⟩
      rw [Array.setIfInBounds_comm _ _ hji]
      exact h3.2.2

/-- All of W wait for number i. -/
def waitsM (md : Region.Mode) (ops : Array Oper) (W : List Nat) (listed : Array Bool) (i : Nat) : Bool :=
  !W.contains i && W.all fun k => !listed.getD k false && match ops[k]? with
    | some ok => ok.after.any fun e => Region.binds md e && (e.on == i || W.contains e.on)
    | none => true

/-- Number i may be taken first. -/
theorem many_val {o : Oper} {fuel : Nat} {listed : Array Bool} {a : Act} {w : World} (i : Nat) (d : Option Tmp) (hi : ops[i]? = some o) (hd : o.dst = d) (hs : Region.noSelect ops = true) (hf : Region.free md ops listed i = true) (hr : (Region.ready md ops listed).contains i = true)
    (W : List Nat) (hl : waitsM md ops W listed i = true) (hni : ∀ p ∈ ps, p.1 ≠ i) (hQ : ∀ c a d v w, Q (.panic c) (Act.put a d v) w → Q (.panic c) a w) (hw : Region.wanted o (yielded ops a.tmps) = true) (v : Value) (hv : ∀ w, (S w ∧ ∀ p ∈ ps, p.1 ∈ W → p.2 w) → (execOp a.eval o).run P w = .ok (.value v) w) (hS : LateAll ps S listed w)
    (h : wpAnyM P md ops Q ps S fuel (listed.setIfInBounds i true) (a.put d v) w) : wpAnyM P md ops Q ps S (fuel + 1) listed a w := by
  subst hd
  unfold waitsM at hl
  simp only [Bool.and_eq_true, Bool.not_eq_true', List.all_eq_true] at hl
  obtain ⟨hl1, hl2⟩ := hl
  refine wpAnyM_first hi (Region.noSelect_spec hs) (fun c a w => hQ c a _ _ w) W (fun h => by simp [h] at hl1) hni (fun k hk ok hok => ?_) fuel listed a w (Region.free_spec hi hf) (fun k hk => (hl2 k hk).1) (by simpa using hr) (.inl ⟨hw, hv⟩) hS h
  have h2 := (hl2 k hk).2
  rw [hok] at h2
  simp only [Array.any_eq_true', Bool.and_eq_true, Bool.or_eq_true, beq_iff_eq, List.contains_iff_mem] at h2
  exact h2

/-- The one operation that may come up. -/
theorem many_one {o : Oper} {fuel : Nat} {listed : Array Bool} {a : Act} {w : World} (i : Nat) (hr : Region.ready md ops listed = [i]) (hi : ops[i]? = some o) (hw : Region.wanted o (yielded ops a.tmps) = true)
    (h : ∀ K' : Act → World → Prop, Hid (∀ a w, LateAll ps S (listed.setIfInBounds i true) w → wpAnyM P md ops Q ps S fuel (listed.setIfInBounds i true) a w → K' a w) → Oper.wp P o a w K' Q) : wpAnyM P md ops Q ps S (fuel + 1) listed a w := by
  refine ⟨fun h0 => (by rw [hr] at h0; cases h0), fun j hj => ?_⟩
  rw [hr] at hj
  simp only [List.mem_singleton] at hj
  subst hj
  refine wpOp_step hi fun K hK => ?_
  rw [if_pos hw]
  exact h K (fun a w h1 h2 => hK a w ⟨h1, h2⟩)
/-- The one operation that may come up gives a value. -/
theorem many_ready {o : Oper} {fuel : Nat} {listed : Array Bool} {a : Act} {w : World} (i : Nat) (d : Option Tmp) (hr : Region.ready md ops listed = [i]) (hi : ops[i]? = some o) (hw : Region.wanted o (yielded ops a.tmps) = true) (hd : o.dst = d) (v : Value) (w' : World)
    (he : (execOp a.eval o).run P w = .ok (.value v) w') (hS : LateAll ps S (listed.setIfInBounds i true) w') (h : wpAnyM P md ops Q ps S fuel (listed.setIfInBounds i true) (a.put d v) w') : wpAnyM P md ops Q ps S (fuel + 1) listed a w := by
  subst hd
  refine many_one i hr hi hw fun K hK => ?_
  unfold Oper.wp
  rw [he]
  exact hK.out _ _ hS h
theorem many_done {listed : Array Bool} {a : Act} {w : World} (hr : Region.ready md ops listed = []) (h : Q .normal a w) :
    ∀ fuel, wpAnyM P md ops Q ps S fuel listed a w
  | 0 => ⟨hr, h⟩
  | _ + 1 => ⟨fun _ => h, by rw [hr]; simp⟩
end
end Go.Proofs.YthbnacikomimfaaDoor.BL
