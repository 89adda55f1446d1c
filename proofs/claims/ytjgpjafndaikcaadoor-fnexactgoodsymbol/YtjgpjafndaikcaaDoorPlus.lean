/-
  What plus and fits of impl's nats answer.
-/
import Derived.Test.YtjgpjafndaikcaaDoorCarry
namespace Go.Proofs.YtjgpjafndaikcaaDoor
open Go.RowKit
set_option linter.unusedVariables false

/-- The parts of q below j added to those of p. -/
def addTo (p q : List Int) : Nat → List Int
  | 0 => p
  | j + 1 => (addTo p q j).set j ((addTo p q j).getD j 0 + q.getD j 0)

theorem addTo_len (p q : List Int) (j : Nat) : (addTo p q j).length = p.length := by
  induction j with
  | zero => rfl
  | succ j ih => simp [addTo, ih]
theorem addTo_get (p q : List Int) (j i : Nat) (hj : j ≤ p.length) : (addTo p q j).getD i 0 = if i < j then p.getD i 0 + q.getD i 0 else p.getD i 0 := by
  induction j with
  | zero => simp [addTo]
  | succ j ih =>
    unfold addTo
    rw [getD_set _ _ _ _ (by rw [addTo_len]; omega)]
    by_cases e : i = j
    · subst e; rw [if_pos rfl, ih (by omega), if_neg (by omega), if_pos (by omega)]
    · rw [if_neg e, ih (by omega)]
      by_cases h : i < j
      · rw [if_pos h, if_pos (by omega)]
      · rw [if_neg h, if_neg (by omega)]
theorem addTo_val (B : Int) (p q : List Int) (j : Nat) (hj : j ≤ p.length) (hq : j ≤ q.length) : vb B (addTo p q j) = vb B p + vb B (q.take j) := by
  induction j with
  | zero => simp [addTo, vb]
  | succ j ih =>
    unfold addTo
    rw [vb_set _ _ _ _ (by rw [addTo_len]; omega), ih (by omega) (by omega), List.take_succ_eq_append_getElem (by omega), vb_snoc]
    have : q.getD j 0 = q[j] := by simp [List.getD, show j < q.length by omega]
    rw [this, List.length_take, Nat.min_eq_left (by omega)]
    have e : (addTo p q j).getD j 0 + q[j] - (addTo p q j).getD j 0 = q[j] := by omega
    rw [e]; omega
theorem vb_take_out (B : Int) (q : List Int) (m : Nat) (h : m ≤ q.length) (out : ∀ i, m ≤ i → q.getD i 0 = 0) : vb B (q.take m) = vb B q := by
  rw [vb_split B q m h]
  have : vb B (q.drop m) = 0 := vb_zero B _ (fun i => by rw [getD_drop]; exact out _ (by omega))
  rw [this]; simp

theorem res_nat {fn : Func} {x : Tmp} (h : fn.results = #[.cell x 35]) (tmps : Array Value) (w : World) (b : Nat) (n : Int) (p : List Int)
    (hp : tmps.getD x undef = .pointer (some ⟨b, 0, none⟩)) (hN : NatAt w b n p) (hl : p.length = 204) : (results fn tmps).run Tryd.prog w = .ok (.agg (natC n p)) w :=
  results_cell_row h tmps w b 35 (natC n p) (0, 0) _ hp hN Tryd.underlying35 rfl (nat_info n p hl)

theorem fits_any (k : Nat) (p : List Int) (w : World) :
    Calls Tryd.prog 40 #[.agg (natC k p)] w fun e w' => e = .returned (.bool (decide (k ≤ 100))) ∧ Below w.heap.size w w' := by
  have a0 := (NatAt.new w k p).c0
  by_cases h : (k : Int) ≤ 100
  · have hd : decide (k ≤ 100) = true := by simp; omega
    rw [hd]
    go_enter Tryd.func40, Tryd.ntmps40
    go_wp2
    go_ret
    exact ⟨rfl, (Below.refl _ _).alloc (Nat.le_refl _) _⟩
  · have hd : decide (k ≤ 100) = false := by simp; omega
    rw [hd]
    go_enter Tryd.func40, Tryd.ntmps40
    go_wp2
    go_ret
    exact ⟨rfl, (Below.refl _ _).alloc (Nat.le_refl _) _⟩

end Go.Proofs.YtjgpjafndaikcaaDoor
