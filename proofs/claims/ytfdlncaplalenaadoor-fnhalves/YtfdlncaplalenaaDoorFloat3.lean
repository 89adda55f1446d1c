/-
  A drawn region in which operations and calls come up one behind the other, and besides, at any time, three new variables of one type (x, y, z := f(..), g(..), h(..)); what is known of the memory may change from call to call.
-/
import Derived.Test.YtfdlncaplalenaaDoorTwoTwo
namespace Go.Proofs.YtfdlncaplalenaaDoor
open Go.RowKit
set_option linter.unusedVariables false

def setO (L : Array Bool) (i : Nat) (b : Bool) : Array Bool := if b then L.setIfInBounds i true else L
def putO (a : Act) (d : Tmp) : Option Nat → Act
  | none => a
  | some p => a.put (some d) (.pointer (some ⟨p, 0, none⟩))
theorem setO_set (L : Array Bool) (i j : Nat) (b : Bool) (h : i ≠ j) : setO (L.setIfInBounds j true) i b = (setO L i b).setIfInBounds j true := by
  cases b
  · rfl
  · exact Array.setIfInBounds_comm (xs := L) true true (Ne.symm h)
theorem putO_put (a : Act) (d e : Nat) (o : Option Nat) (v : Value) (h : d ≠ e) : putO (a.put (some e) v) d o = (putO a d o).put (some e) v := by
  cases o
  · rfl
  · exact put_comm2 a e d v _ (Ne.symm h)
theorem putO_eval (a : Act) (d e : Nat) (o : Option Nat) (h : d ≠ e) : (putO a d o).eval (.tmp e) = a.eval (.tmp e) := by
  cases o
  · rfl
  · exact put_ne2 a d e _ h
def lst3 (L : Array Bool) (i1 i2 i3 : Nat) (b1 b2 b3 : Bool) : Array Bool := setO (setO (setO L i1 b1) i2 b2) i3 b3
def put3 (a : Act) (d1 d2 d3 : Tmp) (o1 o2 o3 : Option Nat) : Act := putO (putO (putO a d1 o1) d2 o2) d3 o3
def left1 (o : Option Nat) : Nat := if o.isSome then 0 else 1
/-- Where the new variables lie that are there already. -/
structure Pl3 (T : TypeId) (zero : Array Value) (B : Nat) (w : World) (o1 o2 o3 : Option Nat) : Prop where
  p1 : ∀ p, o1 = some p → RowAt w p T zero ∧ B ≤ p
  p2 : ∀ p, o2 = some p → RowAt w p T zero ∧ B ≤ p
  p3 : ∀ p, o3 = some p → RowAt w p T zero ∧ B ≤ p
  n12 : ∀ p q, o1 = some p → o2 = some q → p ≠ q
  n13 : ∀ p q, o1 = some p → o3 = some q → p ≠ q
  n23 : ∀ p q, o2 = some p → o3 = some q → p ≠ q
theorem Pl3.start0 {T : TypeId} {zero : Array Value} {B : Nat} {w : World} : Pl3 T zero B w none none none :=
  ⟨fun _ h => (by cases h), fun _ h => (by cases h), fun _ h => (by cases h), fun _ _ h => (by cases h), fun _ _ h => (by cases h), fun _ _ h => (by cases h)⟩
theorem Pl3.move {T : TypeId} {zero : Array Value} {B : Nat} {w w' : World} {o1 o2 o3 : Option Nat} (h : Pl3 T zero B w o1 o2 o3) (hm : ∀ p, RowAt w p T zero → B ≤ p → RowAt w' p T zero) : Pl3 T zero B w' o1 o2 o3 :=
  ⟨fun p e => ⟨hm p (h.p1 p e).1 (h.p1 p e).2, (h.p1 p e).2⟩, fun p e => ⟨hm p (h.p2 p e).1 (h.p2 p e).2, (h.p2 p e).2⟩, fun p e => ⟨hm p (h.p3 p e).1 (h.p3 p e).2, (h.p3 p e).2⟩, h.n12, h.n13, h.n23⟩
theorem Pl3.new1 {T : TypeId} {zero : Array Value} {B : Nat} {w : World} {o2 o3 : Option Nat} (h : Pl3 T zero B w none o2 o3) (hB : B ≤ w.heap.size) : Pl3 T zero B (w.alloc (.cells zero T)) (some w.heap.size) o2 o3 :=
  ⟨fun p e => (by cases e; exact ⟨RowAt.new w T zero, hB⟩), fun p e => ⟨RowAt.old (h.p2 p e).1 _, (h.p2 p e).2⟩, fun p e => ⟨RowAt.old (h.p3 p e).1 _, (h.p3 p e).2⟩,
   fun p q e f => (by cases e; have := (h.p2 q f).1.lt; omega), fun p q e f => (by cases e; have := (h.p3 q f).1.lt; omega), h.n23⟩
theorem Pl3.new2 {T : TypeId} {zero : Array Value} {B : Nat} {w : World} {o1 o3 : Option Nat} (h : Pl3 T zero B w o1 none o3) (hB : B ≤ w.heap.size) : Pl3 T zero B (w.alloc (.cells zero T)) o1 (some w.heap.size) o3 :=
  ⟨fun p e => ⟨RowAt.old (h.p1 p e).1 _, (h.p1 p e).2⟩, fun p e => (by cases e; exact ⟨RowAt.new w T zero, hB⟩), fun p e => ⟨RowAt.old (h.p3 p e).1 _, (h.p3 p e).2⟩,
   fun p q e f => (by cases f; have := (h.p1 p e).1.lt; omega), h.n13, fun p q e f => (by cases e; have := (h.p3 q f).1.lt; omega)⟩
theorem Pl3.new3 {T : TypeId} {zero : Array Value} {B : Nat} {w : World} {o1 o2 : Option Nat} (h : Pl3 T zero B w o1 o2 none) (hB : B ≤ w.heap.size) : Pl3 T zero B (w.alloc (.cells zero T)) o1 o2 (some w.heap.size) :=
  ⟨fun p e => ⟨RowAt.old (h.p1 p e).1 _, (h.p1 p e).2⟩, fun p e => ⟨RowAt.old (h.p2 p e).1 _, (h.p2 p e).2⟩, fun p e => (by cases e; exact ⟨RowAt.new w T zero, hB⟩),
   h.n12, fun p q e f => (by cases f; have := (h.p1 p e).1.lt; omega), fun p q e f => (by cases f; have := (h.p2 p e).1.lt; omega)⟩

/-- A variable of no other operation is what it was. -/
def Ag (d1 d2 d3 : Tmp) (a a' : Act) : Prop := ∀ e : Nat, d1 ≠ e → d2 ≠ e → d3 ≠ e → a'.eval (.tmp e) = a.eval (.tmp e)
theorem put3_ag (a : Act) (d1 d2 d3 : Tmp) (o1 o2 o3 : Option Nat) : Ag d1 d2 d3 a (put3 a d1 d2 d3 o1 o2 o3) := fun e h1 h2 h3 => by
  unfold put3
  rw [putO_eval _ _ _ _ h3, putO_eval _ _ _ _ h2, putO_eval _ _ _ _ h1]

def allB (f : Bool → Bool → Bool → Bool) : Bool := f false false false && (f false false true && (f false true false && (f false true true && (f true false false && (f true false true && (f true true false && f true true true))))))
theorem allB_at {f : Bool → Bool → Bool → Bool} (h : allB f = true) : ∀ b1 b2 b3, f b1 b2 b3 = true := by
  unfold allB at h
  simp only [Bool.and_eq_true] at h
  obtain ⟨h1, h2, h3, h4, h5, h6, h7, h8⟩ := h
  intro b1 b2 b3
  cases b1 <;> cases b2 <;> cases b3 <;> assumption

section
variable {ops : Array Oper} {Q : Exit → Act → World → Prop} {md : Region.Mode} {S : World → Prop} {i1 i2 i3 : Nat} {d1 d2 d3 : Tmp} {T : TypeId} {zero : Array Value} {B : Nat} {J : World → Prop} {fuel : Nat} {listed : Array Bool} {a : Act} {o oa1 oa2 oa3 : Oper}

/-- Each of the new variables is there, or not yet. -/
def Fl3 (ops : Array Oper) (Q : Exit → Act → World → Prop) (md : Region.Mode) (S : World → Prop) (i1 i2 i3 : Nat) (d1 d2 d3 : Tmp) (T : TypeId) (zero : Array Value) (B : Nat) (J : World → Prop) (fuel : Nat) (listed : Array Bool) (a : Act) : Prop :=
  ∀ w o1 o2 o3, J w → Pl3 T zero B w o1 o2 o3 → wpAnyH Tryd.prog md ops Q S (fuel + (left1 o1 + left1 o2 + left1 o3)) (lst3 listed i1 i2 i3 o1.isSome o2.isSome o3.isSome) (put3 a d1 d2 d3 o1 o2 o3) w

theorem float3_begin {id : Nat} {w : World} (S : World → Prop) (i1 i2 i3 : Nat) (d1 d2 d3 : Tmp) (T : TypeId) (zero : Array Value) (B : Nat) (J : World → Prop) (fuel : Nat) (hm : Tryd.prog.follows .mixedOrders = true) (hn : ops.size = fuel + 3) (hJ : J w.drew)
    (h : Fl3 ops (NoPanic Q) .any S i1 i2 i3 d1 d2 d3 T zero B J fuel (Array.replicate ops.size false) a) : (Code.region id ops true).wp Tryd.prog Q a w := by
  refine held_begin S hm ?_
  have := h w.drew none none none hJ Pl3.start0
  rw [hn] at this ⊢
  exact this

theorem float3_val (i : Nat) (d : Tmp) (hi : ops[i]? = some o) (hd : o.dst = some d) (hs : Region.noSelect ops = true)
    (hf : allB (fun b1 b2 b3 => Region.free md ops (lst3 listed i1 i2 i3 b1 b2 b3) i && (Region.ready md ops (lst3 listed i1 i2 i3 b1 b2 b3)).contains i) = true)
    (hQ : ∀ c a d v w, Q (.panic c) (Act.put a d v) w → Q (.panic c) a w) (hg : ∀ ts, Region.wanted o ts = true) (hne : i1 ≠ i ∧ i2 ≠ i ∧ i3 ≠ i) (hde : d1 ≠ d ∧ d2 ≠ d ∧ d3 ≠ d) (v : Value)
    (hv : ∀ a' w, Ag d1 d2 d3 a a' → S w → (execOp a'.eval o).run Tryd.prog w = .ok (.value v) w)
    (hS : ∀ w, J w → S w) (h : Fl3 ops Q md S i1 i2 i3 d1 d2 d3 T zero B J fuel (listed.setIfInBounds i true) (a.put (some d) v)) : Fl3 ops Q md S i1 i2 i3 d1 d2 d3 T zero B J (fuel + 1) listed a := by
  intro w o1 o2 o3 hJ hP
  have h1 := h w o1 o2 o3 hJ hP
  have hf' := allB_at hf o1.isSome o2.isSome o3.isSome
  simp only [Bool.and_eq_true] at hf'
  rw [show fuel + 1 + (left1 o1 + left1 o2 + left1 o3) = fuel + (left1 o1 + left1 o2 + left1 o3) + 1 by omega]
  refine held_valS i (some d) hi hd hs hf'.1 hf'.2 hQ (hg _) v (fun w hw => hv _ w (put3_ag _ _ _ _ _ _ _) hw) (hS w hJ) ?_
  unfold lst3 put3 at h1 ⊢
  rw [setO_set _ _ _ _ hne.1, setO_set _ _ _ _ hne.2.1, setO_set _ _ _ _ hne.2.2, putO_put _ _ _ _ _ hde.1, putO_put _ _ _ _ _ hde.2.1, putO_put _ _ _ _ _ hde.2.2] at h1
  exact h1

/-- What the three operations are that make the new variables. -/
structure New3 (ops : Array Oper) (i1 i2 i3 : Nat) (d1 d2 d3 : Tmp) (T : TypeId) (zero : Array Value) : Prop where
  n12 : i1 ≠ i2
  n13 : i1 ≠ i3
  n23 : i2 ≠ i3
  e12 : d1 ≠ d2
  e13 : d1 ≠ d3
  e23 : d2 ≠ d3
  a1 : ∃ o, ops[i1]? = some o ∧ o.dst = some d1 ∧ o.op = .alloc T ∧ ∀ ts, Region.wanted o ts = true
  a2 : ∃ o, ops[i2]? = some o ∧ o.dst = some d2 ∧ o.op = .alloc T ∧ ∀ ts, Region.wanted o ts = true
  a3 : ∃ o, ops[i3]? = some o ∧ o.dst = some d3 ∧ o.op = .alloc T ∧ ∀ ts, Region.wanted o ts = true
  hz : ∀ w, (zeroValue T).run Tryd.prog w = .ok (.agg zero) w

theorem new3_op {i d : Nat} {L : Array Bool} {w : World} (ha : ∃ o, ops[i]? = some o ∧ o.dst = some d ∧ o.op = .alloc T ∧ ∀ ts, Region.wanted o ts = true) (hz : ∀ w, (zeroValue T).run Tryd.prog w = .ok (.agg zero) w) (hS : S (w.alloc (.cells zero T)))
    (h : wpAnyH Tryd.prog md ops Q S fuel (L.setIfInBounds i true) (a.put (some d) (.pointer (some ⟨w.heap.size, 0, none⟩))) (w.alloc (.cells zero T))) :
    wpOp Tryd.prog ops Q i (fun a' w' => S w' ∧ wpAnyH Tryd.prog md ops Q S fuel (L.setIfInBounds i true) a' w') a w := by
  obtain ⟨o, hi, hd, ho, hg⟩ := ha
  refine wpOp_step hi fun K hK => ?_
  rw [if_pos (hg _)]
  unfold Oper.wp
  rw [run_alloc1 ho hz]
  simp only [Oper.upon, hd]
  exact hK _ _ ⟨hS, h⟩

/-- One of them comes up: the rest goes on. -/
theorem float3_new (N : New3 ops i1 i2 i3 d1 d2 d3 T zero) (hJ : ∀ w, J w → J (w.alloc (.cells zero T))) (hS : ∀ w, J w → S w) (hB : ∀ w, J w → B ≤ w.heap.size) (f n : Nat) (w : World) (o1 o2 o3 : Option Nat) (hw : J w) (hP : Pl3 T zero B w o1 o2 o3) (hn : left1 o1 + left1 o2 + left1 o3 = n + 1)
    (ih : ∀ w o1 o2 o3, J w → Pl3 T zero B w o1 o2 o3 → left1 o1 + left1 o2 + left1 o3 = n → wpAnyH Tryd.prog md ops Q S f (lst3 listed i1 i2 i3 o1.isSome o2.isSome o3.isSome) (put3 a d1 d2 d3 o1 o2 o3) w)
    (k : Nat) (hk : (o1.isSome = false ∧ k = i1) ∨ (o2.isSome = false ∧ k = i2) ∨ (o3.isSome = false ∧ k = i3)) :
    wpOp Tryd.prog ops Q k (fun a' w' => S w' ∧ wpAnyH Tryd.prog md ops Q S f ((lst3 listed i1 i2 i3 o1.isSome o2.isSome o3.isSome).setIfInBounds k true) a' w') (put3 a d1 d2 d3 o1 o2 o3) w := by
  have hw2 := hJ w hw
  rcases hk with ⟨hk, rfl⟩ | ⟨hk, rfl⟩ | ⟨hk, rfl⟩
  · cases o1 with
    | some p => cases hk
    | none =>
      refine new3_op N.a1 N.hz (hS _ hw2) ?_
      have := ih _ (some w.heap.size) o2 o3 hw2 (hP.new1 (hB w hw)) (by simp only [left1, Option.isSome] at hn ⊢; simp at hn ⊢; omega)
      unfold lst3 put3 at this ⊢
      rw [← setO_set _ _ _ _ (Ne.symm N.n13), ← setO_set _ _ _ _ (Ne.symm N.n12), ← putO_put _ _ _ _ _ (Ne.symm N.e13), ← putO_put _ _ _ _ _ (Ne.symm N.e12)]
      exact this
  · cases o2 with
    | some p => cases hk
    | none =>
      refine new3_op N.a2 N.hz (hS _ hw2) ?_
      have := ih _ o1 (some w.heap.size) o3 hw2 (hP.new2 (hB w hw)) (by simp only [left1, Option.isSome] at hn ⊢; simp at hn ⊢; omega)
      unfold lst3 put3 at this ⊢
      rw [← setO_set _ _ _ _ (Ne.symm N.n23), ← putO_put _ _ _ _ _ (Ne.symm N.e23)]
      exact this
  · cases o3 with
    | some p => cases hk
    | none =>
      refine new3_op N.a3 N.hz (hS _ hw2) ?_
      exact ih _ o1 o2 (some w.heap.size) hw2 (hP.new3 (hB w hw)) (by simp only [left1, Option.isSome] at hn ⊢; simp at hn ⊢; omega)

theorem left_pos {o1 o2 o3 : Option Nat} (h : (o1.isSome = false) ∨ (o2.isSome = false) ∨ (o3.isSome = false)) : ∃ n, left1 o1 + left1 o2 + left1 o3 = n + 1 := by
  unfold left1
  rcases h with h | h | h <;> rw [h] <;> simp only [Bool.false_eq_true, if_false]
  · exact ⟨(if o2.isSome = true then 0 else 1) + (if o3.isSome = true then 0 else 1), by omega⟩
  · exact ⟨(if o1.isSome = true then 0 else 1) + (if o3.isSome = true then 0 else 1), by omega⟩
  · exact ⟨(if o1.isSome = true then 0 else 1) + (if o2.isSome = true then 0 else 1), by omega⟩

theorem float3_call (N : New3 ops i1 i2 i3 d1 d2 d3 T zero) (i : Nat) (d : Tmp) (hi : ops[i]? = some o) (hd : o.dst = some d) (hg : ∀ ts, Region.wanted o ts = true)
    (hr : allB (fun b1 b2 b3 => (Region.ready md ops (lst3 listed i1 i2 i3 b1 b2 b3)).contains i && (Region.ready md ops (lst3 listed i1 i2 i3 b1 b2 b3)).all fun k => k == i || ((!b1 && k == i1) || ((!b2 && k == i2) || (!b3 && k == i3)))) = true)
    (hne : i1 ≠ i ∧ i2 ≠ i ∧ i3 ≠ i) (hde : d1 ≠ d ∧ d2 ≠ d ∧ d3 ≠ d) (hJ : ∀ w, J w → J (w.alloc (.cells zero T))) (hS : ∀ w, J w → S w) (hB : ∀ w, J w → B ≤ w.heap.size) (f : FuncId) (args : Array Value)
    (he : ∀ a' w, Ag d1 d2 d3 a a' → J w → (execOp a'.eval o).run Tryd.prog w = .ok (.enter f args) w) (R : World → Ending → World → Prop) (hc : ∀ w, J w → Calls Tryd.prog f args w (R w))
    (h : ∀ w e w', J w → R w e w' → ∃ (v : Value) (J' : World → Prop), e = .returned v ∧ J' w' ∧ S w' ∧ (∀ p, RowAt w p T zero → B ≤ p → RowAt w' p T zero) ∧ Fl3 ops Q md S i1 i2 i3 d1 d2 d3 T zero B J' fuel (listed.setIfInBounds i true) (a.put (some d) v)) :
    Fl3 ops Q md S i1 i2 i3 d1 d2 d3 T zero B J (fuel + 1) listed a := by
  have main : ∀ (n : Nat) w o1 o2 o3, J w → Pl3 T zero B w o1 o2 o3 → left1 o1 + left1 o2 + left1 o3 = n → wpAnyH Tryd.prog md ops Q S (fuel + 1 + n) (lst3 listed i1 i2 i3 o1.isSome o2.isSome o3.isSome) (put3 a d1 d2 d3 o1 o2 o3) w := by
    intro n
    induction n with
    | zero =>
      intro w o1 o2 o3 hw hP hn
      have hr' := allB_at hr o1.isSome o2.isSome o3.isSome
      simp only [Bool.and_eq_true, List.all_eq_true, Bool.or_eq_true, Bool.not_eq_true', beq_iff_eq, List.contains_iff_mem] at hr'
      show wpAnyH Tryd.prog md ops Q S (fuel + 1) _ _ _
      refine ⟨fun h0 => (by rw [h0] at hr'; cases hr'.1), fun k hk => ?_⟩
      rcases hr'.2 k hk with rfl | hk'
      · refine wpOp_step hi fun K hK => ?_
        rw [if_pos (hg _)]
        unfold Oper.wp
        rw [he _ w (put3_ag _ _ _ _ _ _ _) hw]
        simp only [Oper.upon]
        refine (hc w hw).mono ?_
        intro e w' hR
        obtain ⟨v, J', rfl, hJ', hS', hm, hF⟩ := h w e w' hw hR
        rw [hd]
        refine hK _ _ ⟨hS', ?_⟩
        have h1 := hF w' o1 o2 o3 hJ' (hP.move hm)
        rw [hn] at h1
        unfold lst3 put3 at h1 ⊢
        rw [setO_set _ _ _ _ hne.1, setO_set _ _ _ _ hne.2.1, setO_set _ _ _ _ hne.2.2, putO_put _ _ _ _ _ hde.1, putO_put _ _ _ _ _ hde.2.1, putO_put _ _ _ _ _ hde.2.2] at h1
        exact h1
      · exfalso
        obtain ⟨m, hm⟩ := left_pos (o1 := o1) (o2 := o2) (o3 := o3) (hk'.imp And.left (Or.imp And.left And.left))
        omega
    | succ n ih =>
      intro w o1 o2 o3 hw hP hn
      have hr' := allB_at hr o1.isSome o2.isSome o3.isSome
      simp only [Bool.and_eq_true, List.all_eq_true, Bool.or_eq_true, Bool.not_eq_true', beq_iff_eq, List.contains_iff_mem] at hr'
      rw [show fuel + 1 + (n + 1) = fuel + 1 + n + 1 by omega]
      refine ⟨fun h0 => (by rw [h0] at hr'; cases hr'.1), fun k hk => ?_⟩
      rcases hr'.2 k hk with rfl | hk'
      · refine wpOp_step hi fun K hK => ?_
        rw [if_pos (hg _)]
        unfold Oper.wp
        rw [he _ w (put3_ag _ _ _ _ _ _ _) hw]
        simp only [Oper.upon]
        refine (hc w hw).mono ?_
        intro e w' hR
        obtain ⟨v, J', rfl, hJ', hS', hm, hF⟩ := h w e w' hw hR
        rw [hd]
        refine hK _ _ ⟨hS', ?_⟩
        have h1 := hF w' o1 o2 o3 hJ' (hP.move hm)
        rw [hn, show fuel + (n + 1) = fuel + 1 + n by omega] at h1
        unfold lst3 put3 at h1 ⊢
        rw [setO_set _ _ _ _ hne.1, setO_set _ _ _ _ hne.2.1, setO_set _ _ _ _ hne.2.2, putO_put _ _ _ _ _ hde.1, putO_put _ _ _ _ _ hde.2.1, putO_put _ _ _ _ _ hde.2.2] at h1
        exact h1
      · exact float3_new N hJ hS hB _ n w o1 o2 o3 hw hP hn ih k hk'
  intro w o1 o2 o3 hw hP
  exact main _ w o1 o2 o3 hw hP rfl

theorem float3_end (N : New3 ops i1 i2 i3 d1 d2 d3 T zero)
    (hr : allB (fun b1 b2 b3 => (b1 && b2 && b3) || (!(Region.ready md ops (lst3 listed i1 i2 i3 b1 b2 b3)).isEmpty && (Region.ready md ops (lst3 listed i1 i2 i3 b1 b2 b3)).all fun k => (!b1 && k == i1) || ((!b2 && k == i2) || (!b3 && k == i3)))) = true)
    (hJ : ∀ w, J w → J (w.alloc (.cells zero T))) (hS : ∀ w, J w → S w) (hB : ∀ w, J w → B ≤ w.heap.size)
    (h : ∀ w p1 p2 p3, J w → RowAt w p1 T zero → RowAt w p2 T zero → RowAt w p3 T zero → B ≤ p1 → B ≤ p2 → B ≤ p3 → p1 ≠ p2 → p1 ≠ p3 → p2 ≠ p3 → wpAnyH Tryd.prog md ops Q S fuel (((listed.setIfInBounds i1 true).setIfInBounds i2 true).setIfInBounds i3 true) (((a.put (some d1) (.pointer (some ⟨p1, 0, none⟩))).put (some d2) (.pointer (some ⟨p2, 0, none⟩))).put (some d3) (.pointer (some ⟨p3, 0, none⟩))) w) :
    Fl3 ops Q md S i1 i2 i3 d1 d2 d3 T zero B J fuel listed a := by
  have main : ∀ (n : Nat) w o1 o2 o3, J w → Pl3 T zero B w o1 o2 o3 → left1 o1 + left1 o2 + left1 o3 = n → wpAnyH Tryd.prog md ops Q S (fuel + n) (lst3 listed i1 i2 i3 o1.isSome o2.isSome o3.isSome) (put3 a d1 d2 d3 o1 o2 o3) w := by
    intro n
    induction n with
    | zero =>
      intro w o1 o2 o3 hw hP hn
      cases o1 with
      | none => simp [left1] at hn
      | some p1 =>
        cases o2 with
        | none => simp [left1] at hn
        | some p2 =>
          cases o3 with
          | none => simp [left1] at hn
          | some p3 => exact h w p1 p2 p3 hw (hP.p1 _ rfl).1 (hP.p2 _ rfl).1 (hP.p3 _ rfl).1 (hP.p1 _ rfl).2 (hP.p2 _ rfl).2 (hP.p3 _ rfl).2 (hP.n12 _ _ rfl rfl) (hP.n13 _ _ rfl rfl) (hP.n23 _ _ rfl rfl)
    | succ n ih =>
      intro w o1 o2 o3 hw hP hn
      have hr' := allB_at hr o1.isSome o2.isSome o3.isSome
      simp only [Bool.and_eq_true, List.all_eq_true, Bool.or_eq_true, Bool.not_eq_true', beq_iff_eq] at hr'
      have hsome : ¬ ((o1.isSome = true ∧ o2.isSome = true) ∧ o3.isSome = true) := by
        rintro ⟨⟨g1, g2⟩, g3⟩
        simp [left1, g1, g2, g3] at hn
      obtain ⟨hne0, hall⟩ := hr'.resolve_left hsome
      rw [show fuel + (n + 1) = fuel + n + 1 by omega]
      refine ⟨fun h0 => (by rw [h0] at hne0; cases hne0), fun k hk => ?_⟩
      exact float3_new N hJ hS hB _ n w o1 o2 o3 hw hP hn ih k (hall k hk)
  intro w o1 o2 o3 hw hP
  exact main _ w o1 o2 o3 hw hP rfl
end
end Go.Proofs.YtfdlncaplalenaaDoor
