/-
  A drawn region in which operations and calls come up one behind the other, and besides, at any time, one new variable (x := f(g(..), h(..))): however many calls there are.
-/
import Derived.Test.YtmfpnbmfcoahbaaGreatDoorTwoTwo
namespace Go.Proofs.YtmfpnbmfcoahbaaGreatDoor
open Go.RowKit
set_option linter.unusedVariables false

/-- The new variable is there, or not yet, whatever new memory there is besides. -/
def Fl (ops : Array Oper) (Q : Exit → Act → World → Prop) (md : Region.Mode) (S : World → Prop) (ia : Nat) (da : Tmp) (T : TypeId) (zero : Array Value) (B : Nat) (w0 : World) (fuel : Nat) (listed : Array Bool) (a : Act) : Prop :=
  ∀ w, Below w0.heap.size w0 w → wpAnyH Tryz.prog md ops Q S (fuel + 1) listed a w ∧
    ∀ px, RowAt w px T zero → B ≤ px → wpAnyH Tryz.prog md ops Q S fuel (listed.setIfInBounds ia true) (a.put (some da) (.pointer (some ⟨px, 0, none⟩))) w

section
variable {ops : Array Oper} {Q : Exit → Act → World → Prop} {md : Region.Mode} {S : World → Prop} {ia : Nat} {da : Tmp} {T : TypeId} {zero : Array Value} {B : Nat} {w0 : World} {fuel : Nat} {listed : Array Bool} {a : Act} {o oa : Oper}

theorem float_begin {id : Nat} {w : World} (S : World → Prop) (ia : Nat) (da : Tmp) (T : TypeId) (zero : Array Value) (B fuel : Nat) (hm : Tryz.prog.follows .mixedOrders = true) (hn : ops.size = fuel + 1) (h : Fl ops (NoPanic Q) .any S ia da T zero B w.drew fuel (Array.replicate ops.size false) a) : (Code.region id ops true).wp Tryz.prog Q a w := by
  refine held_begin S hm ?_
  have := (h w.drew (Below.refl _ _)).1
  rwa [← hn] at this

theorem float_val (i : Nat) (d : Tmp) (hi : ops[i]? = some o) (hd : o.dst = some d) (hs : Region.noSelect ops = true) (hf : Region.free md ops listed i = true) (hr : (Region.ready md ops listed).contains i = true)
    (hf' : Region.free md ops (listed.setIfInBounds ia true) i = true) (hr' : (Region.ready md ops (listed.setIfInBounds ia true)).contains i = true)
    (hQ : ∀ c a d v w, Q (.panic c) (Act.put a d v) w → Q (.panic c) a w) (hg : ∀ ts, Region.wanted o ts = true) (hne : i ≠ ia) (hde : d ≠ da) (v : Value)
    (hv : ∀ w, S w → (execOp a.eval o).run Tryz.prog w = .ok (.value v) w) (hv' : ∀ x w, S w → (execOp (a.put (some da) x).eval o).run Tryz.prog w = .ok (.value v) w)
    (hS : ∀ w, Below w0.heap.size w0 w → S w) (h : Fl ops Q md S ia da T zero B w0 fuel (listed.setIfInBounds i true) (a.put (some d) v)) : Fl ops Q md S ia da T zero B w0 (fuel + 1) listed a := by
  intro w hw
  obtain ⟨h1, h2⟩ := h w hw
  refine ⟨held_valS i (some d) hi hd hs hf hr hQ (hg _) v hv (hS w hw) h1, fun px hx hb => ?_⟩
  refine held_valS i (some d) hi hd hs hf' hr' hQ (hg _) v (hv' _) (hS w hw) ?_
  rw [Array.setIfInBounds_comm (xs := listed) true true (Ne.symm hne), put_comm2 _ da d _ _ (Ne.symm hde)]
  exact h2 px hx hb

theorem float_call (i : Nat) (d : Tmp) (hi : ops[i]? = some o) (hia : ops[ia]? = some oa) (hd : o.dst = some d) (hda : oa.dst = some da) (hoa : oa.op = .alloc T) (hg : ∀ ts, Region.wanted o ts = true) (hga : ∀ ts, Region.wanted oa ts = true)
    (hr : Region.ready md ops listed = [i, ia]) (hr' : Region.ready md ops (listed.setIfInBounds ia true) = [i]) (hne : i ≠ ia) (hde : d ≠ da)
    (hz : ∀ w, (zeroValue T).run Tryz.prog w = .ok (.agg zero) w) (hB : B ≤ w0.heap.size) (f : FuncId) (args : Array Value)
    (he : ∀ w, (execOp a.eval o).run Tryz.prog w = .ok (.enter f args) w) (he' : ∀ x w, (execOp (a.put (some da) x).eval o).run Tryz.prog w = .ok (.enter f args) w)
    (hS : ∀ w, Below w0.heap.size w0 w → S w) (R : World → Ending → World → Prop) (hc : ∀ w, Below w0.heap.size w0 w → Calls Tryz.prog f args w (R w))
    (h : ∀ w e w', Below w0.heap.size w0 w → R w e w' → ∃ v, e = .returned v ∧ Below w.heap.size w w' ∧ Fl ops Q md S ia da T zero B w' fuel (listed.setIfInBounds i true) (a.put (some d) v)) : Fl ops Q md S ia da T zero B w0 (fuel + 1) listed a := by
  have sec : ∀ w, Below w0.heap.size w0 w → ∀ px, RowAt w px T zero → B ≤ px → wpAnyH Tryz.prog md ops Q S (fuel + 1) (listed.setIfInBounds ia true) (a.put (some da) (.pointer (some ⟨px, 0, none⟩))) w := by
    intro w hw px hx hb
    refine wpAnyH_ready hr' (by simp) ?_
    refine ready_call2 i (some d) hi (hg _) hd f args (he' _ w) (R w) (hc w hw) ?_ AllReadyH.nil
    intro e w' hR
    obtain ⟨v, hv, hW, hF⟩ := h w e w' hw hR
    refine ⟨v, hv, hS _ (hw.trans (hW.mono hw.size)), ?_⟩
    rw [Array.setIfInBounds_comm (xs := listed) true true (Ne.symm hne), put_comm2 _ da d _ _ (Ne.symm hde)]
    exact (hF w' (Below.refl _ _)).2 px (hx.below hW hx.lt) hb
  intro w hw
  refine ⟨?_, sec w hw⟩
  refine wpAnyH_ready hr (by simp) ?_
  refine ready_call2 i (some d) hi (hg _) hd f args (he w) (R w) (hc w hw) ?_ ?_
  · intro e w' hR
    obtain ⟨v, hv, hW, hF⟩ := h w e w' hw hR
    exact ⟨v, hv, hS _ (hw.trans (hW.mono hw.size)), (hF w' (Below.refl _ _)).1⟩
  · have hw2 : Below w0.heap.size w0 (w.alloc (.cells zero T)) := hw.alloc hw.size _
    exact ready_val2 ia (some da) hia (hga _) hda _ _ (run_alloc1 hoa hz) (hS _ hw2) (sec _ hw2 w.heap.size (RowAt.new w T zero) (Nat.le_trans hB hw.size)) AllReadyH.nil

theorem float_end (hia : ops[ia]? = some oa) (hda : oa.dst = some da) (hoa : oa.op = .alloc T) (hga : ∀ ts, Region.wanted oa ts = true) (hr : Region.ready md ops listed = [ia])
    (hz : ∀ w, (zeroValue T).run Tryz.prog w = .ok (.agg zero) w) (hB : B ≤ w0.heap.size) (hS : ∀ w, Below w0.heap.size w0 w → S w)
    (h : ∀ w px, Below w0.heap.size w0 w → RowAt w px T zero → B ≤ px → wpAnyH Tryz.prog md ops Q S fuel (listed.setIfInBounds ia true) (a.put (some da) (.pointer (some ⟨px, 0, none⟩))) w) : Fl ops Q md S ia da T zero B w0 fuel listed a := by
  intro w hw
  refine ⟨?_, fun px hx hb => h w px hw hx hb⟩
  refine wpAnyH_ready hr (by simp) ?_
  have hw2 : Below w0.heap.size w0 (w.alloc (.cells zero T)) := hw.alloc hw.size _
  exact ready_val2 ia (some da) hia (hga _) hda _ _ (run_alloc1 hoa hz) (hS _ hw2) (h _ w.heap.size hw2 (RowAt.new w T zero) (Nat.le_trans hB hw.size)) AllReadyH.nil
end
end Go.Proofs.YtmfpnbmfcoahbaaGreatDoor
