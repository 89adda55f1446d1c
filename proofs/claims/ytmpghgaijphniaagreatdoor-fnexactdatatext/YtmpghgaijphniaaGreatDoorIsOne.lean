/-
  What isOne of impl's nats and isWhole of its fractions answer.
-/
import Derived.Test.YtmpghgaijphniaaGreatDoorFraction
namespace Go.Proofs.YtmpghgaijphniaaGreatDoor
open Go.RowKit
set_option linter.unusedVariables false

theorem Rep.one_iff {n k : Nat} {p : List Int} (h : Rep n k p) : (k = 1 ∧ p.getD 0 0 = 1) ↔ n = 1 := by
  have hp := h.len
  constructor
  · rintro ⟨rfl, h1⟩
    have hv := h.val
    rw [vb_split 1000000 p 1 (by omega), vb_zero _ (p.drop 1) (fun i => by rw [getD_drop]; exact h.out _ (by omega))] at hv
    have : p.take 1 = [1] := by
      cases p with
      | nil => simp at hp
      | cons x p => simp at h1; simp [h1]
    rw [this] at hv; simp [vb] at hv; omega
  · rintro rfl
    have hk : k = 1 := by
      have h0 : k ≠ 0 := fun e => by have := h.zero_iff.1 e; omega
      by_cases e : k = 1
      · exact e
      · have h2 := h.ge (by omega)
        have h3 : (1000000 : Int) ^ 1 ≤ 1000000 ^ (k - 1) := ipow_le (by omega)
        simp at h3; omega
    subst hk
    refine ⟨rfl, ?_⟩
    have hv := h.val
    rw [vb_split 1000000 p 1 (by omega), vb_zero _ (p.drop 1) (fun i => by rw [getD_drop]; exact h.out _ (by omega))] at hv
    have : p.take 1 = [p.getD 0 0] := by
      cases p with
      | nil => simp at hp
      | cons x p => simp
    rw [this] at hv; simp [vb] at hv
    simpa using hv

set_option maxHeartbeats 400000 in
set_option maxRecDepth 100000 in
theorem isOne_any {n k : Nat} {p : List Int} (w : World) (hP : Rep n k p) :
    Calls Tryz.prog 62 #[.agg (natC k p)] w fun e w' => e = .returned (.bool (decide (n = 1))) ∧ Below w.heap.size w w' := by
  have hp := hP.len
  have A := NatAt.new w k p
  have hB : Below w.heap.size w (w.alloc (.cells (natC k p) 69)) := (Below.refl _ _).alloc (Nat.le_refl _) _
  have a0 := A.c0
  have a1 : (w.alloc (.cells (natC k p) 69)).cell? ⟨w.heap.size, 1, none⟩ = some (.int .i64 (p.getD 0 0)) := A.cs 0 (by omega)
  have hi := hP.one_iff
  obtain ⟨x, hx⟩ : ∃ x, x = p.getD 0 0 := ⟨_, rfl⟩
  rw [← hx] at a1 hi
  by_cases hk : k = 1
  · by_cases h1 : x = 1
    · rw [decide_eq_true (hi.1 ⟨hk, h1⟩)]
      have hk' : ((k : Int) == 1) = true := by simp [hk]
      subst h1
      clear hi hx hk
      go_enter Tryz.func62, Tryz.ntmps62
      go_wp2
      go_ret
      exact ⟨rfl, hB⟩
    · rw [decide_eq_false (fun e => h1 (hi.2 e).2)]
      have h1' : (x == 1) = false := by simpa using h1
      have hk' : ((k : Int) == 1) = true := by simp [hk]
      clear hi hx h1 hk
      go_enter Tryz.func62, Tryz.ntmps62
      go_wp2
      go_ret
      exact ⟨rfl, hB⟩
  · rw [decide_eq_false (fun e => hk (hi.2 e).1)]
    have hk' : ((k : Int) == 1) = false := by rw [beq_eq_false_iff_ne]; omega
    clear hi hx hk
    go_enter Tryz.func62, Tryz.ntmps62
    go_wp2
    go_ret
    exact ⟨rfl, hB⟩

theorem isWhole_any {n m k j : Nat} {p q : List Int} (g : Bool) (w : World) (hp : p.length = 204) (hQ : Rep m j q) :
    Calls Tryz.prog 60 #[.agg (numC g k p j q)] w fun e w' => e = .returned (.bool (decide (m = 1))) ∧ Below w.heap.size w w' := by
  have hq := hQ.len
  have A := NumAt.new w g k p j q
  have hB : Below w.heap.size w (w.alloc (.cells (numC g k p j q) 73)) := (Below.refl _ _).alloc (Nat.le_refl _) _
  have HQ := hide hQ
  clear hQ
  go_enter Tryz.func60, Tryz.ntmps60
  go_wp2_with (refine load_mid_nat rfl _ rfl w.heap.size 206 rfl j q (A.bottom hp) hq ?_)
  refine (isOne_any _ HQ.out).mono ?_
  rintro e w1 ⟨rfl, hW1⟩
  go_wp2
  go_ret
  exact ⟨rfl, hB.trans (hW1.mono (by simp))⟩

theorem wp_mid_nat {o : Oper} {a : Act} {w : World} {K : Act → World → Prop} {Q : Exit → Act → World → Prop} (x : Operand) (ho : o.op = .load 69 x) (b off : Nat) (hx : a.eval x = .pointer (some ⟨b, off, none⟩)) (u : Int) (p : List Int) (hr : w.rangeAt b off (natL u p)) (hl : p.length = 204)
    (h : K (a.put o.dst (.agg (natC u p))) w) : o.wp Tryz.prog a w K Q :=
  wp_load_mid 69 x ho b off hx (natL u p) _ hr Tryz.underlying69 rfl (by rw [nat_info u p hl, natC_eq]; simp) h
theorem wp_row_nat {o : Oper} {a : Act} {w : World} {K : Act → World → Prop} {Q : Exit → Act → World → Prop} (x : Operand) (ho : o.op = .load 69 x) (b : Nat) (hx : a.eval x = .pointer (some ⟨b, 0, none⟩)) (u : Int) (p : List Int) (hN : NatAt w b u p) (hl : p.length = 204)
    (h : K (a.put o.dst (.agg (natC u p))) w) : o.wp Tryz.prog a w K Q :=
  wp_load_row 69 x ho b hx 69 (natC u p) (0, 0) _ hN Tryz.underlying69 rfl (nat_info u p hl) h
theorem wp_row_num {o : Oper} {a : Act} {w : World} {K : Act → World → Prop} {Q : Exit → Act → World → Prop} (x : Operand) (ho : o.op = .load 73 x) (b : Nat) (hx : a.eval x = .pointer (some ⟨b, 0, none⟩)) (g : Bool) (u : Int) (p : List Int) (v : Int) (q : List Int) (hN : NumAt w b g u p v q) (hl : p.length = 204) (hm : q.length = 204)
    (h : K (a.put o.dst (.agg (numC g u p v q))) w) : o.wp Tryz.prog a w K Q :=
  wp_load_row 73 x ho b hx 73 (numC g u p v q) (0, 0) _ hN Tryz.underlying73 rfl (num_info g u p v q hl hm) h
/-- The same for an operation behind a guard that says yes. -/
theorem load_nat_w {ops : Array Oper} {rest : List Oper} {o : Oper} {a : Act} {w : World} {Q : Exit → Act → World → Prop} (hw : Region.wanted o (yielded ops a.tmps) = true) (x : Operand) (ho : o.op = .load 69 x)
    (b : Nat) (hx : a.eval x = .pointer (some ⟨b, 0, none⟩)) (u : Int) (p : List Int) (hN : NatAt w b u p) (hl : p.length = 204)
    (h : wpList Tryz.prog ops Q rest (a.put o.dst (.agg (natC u p))) w) : wpList Tryz.prog ops Q (o :: rest) a w :=
  wpList_step fun K hK => by rw [if_pos hw]; exact wp_row_nat x ho b hx u p hN hl (hK _ _ h)
theorem load_num_w {ops : Array Oper} {rest : List Oper} {o : Oper} {a : Act} {w : World} {Q : Exit → Act → World → Prop} (hw : Region.wanted o (yielded ops a.tmps) = true) (x : Operand) (ho : o.op = .load 73 x)
    (b : Nat) (hx : a.eval x = .pointer (some ⟨b, 0, none⟩)) (g : Bool) (u : Int) (p : List Int) (v : Int) (q : List Int) (hN : NumAt w b g u p v q) (hl : p.length = 204) (hm : q.length = 204)
    (h : wpList Tryz.prog ops Q rest (a.put o.dst (.agg (numC g u p v q))) w) : wpList Tryz.prog ops Q (o :: rest) a w :=
  wpList_step fun K hK => by rw [if_pos hw]; exact wp_row_num x ho b hx g u p v q hN hl hm (hK _ _ h)
theorem load_mid_w {ops : Array Oper} {rest : List Oper} {o : Oper} {a : Act} {w : World} {Q : Exit → Act → World → Prop} (hw : Region.wanted o (yielded ops a.tmps) = true) (x : Operand) (ho : o.op = .load 69 x)
    (b off : Nat) (hx : a.eval x = .pointer (some ⟨b, off, none⟩)) (u : Int) (p : List Int) (hr : w.rangeAt b off (natL u p)) (hl : p.length = 204)
    (h : wpList Tryz.prog ops Q rest (a.put o.dst (.agg (natC u p))) w) : wpList Tryz.prog ops Q (o :: rest) a w :=
  wpList_step fun K hK => by rw [if_pos hw]; exact wp_mid_nat x ho b off hx u p hr hl (hK _ _ h)
theorem NumAt.bused {w : World} {b : Nat} {g : Bool} {u : Int} {p : List Int} {v : Int} {q : List Int} (h : NumAt w b g u p v q) (hp : p.length = 204) : w.cell? ⟨b, 206, none⟩ = some (.int .i64 v) := by
  rw [cell_of_row w b 206 _ _ _ h, num_split2]
  simp only [List.getElem?_toArray, List.append_assoc]
  rw [List.getElem?_append_right (by simp [natL_len, hp])]
  simp [hp, natL]
end Go.Proofs.YtmpghgaijphniaaGreatDoor
