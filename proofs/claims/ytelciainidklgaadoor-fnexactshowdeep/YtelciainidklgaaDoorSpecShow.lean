/-
  What spec.l7Show and spec.ShowCell answer.
-/
import Derived.Test.YtelciainidklgaaDoorHeapMath
import Derived.Test.YtelciainidklgaaDoorNumInt
namespace Go.Proofs.YtelciainidklgaaDoor
open Go.RowKit
set_option linter.unusedVariables false

/-- The text of a cell, as far as it is not too long; the first number bounds the depth. -/
def showF (cs : List Cl) : Nat → Nat → List UInt8
  | 0, _ => []
  | f + 1, i => if (cs.getD i default).1 then Lib.itoa (cs.getD i default).2.1
    else if 500 < (showF cs f (cs.getD i default).2.2.1.toNat).length + 1 then 40 :: showF cs f (cs.getD i default).2.2.1.toNat
    else 40 :: (showF cs f (cs.getD i default).2.2.1.toNat ++ 32 :: (showF cs f (cs.getD i default).2.2.2.toNat ++ [41]))
def showC (cs : List Cl) (i : Nat) : List UInt8 := showF cs (i + 1) i
theorem showF_fuel {cs : List Cl} (hok : clsOk 0 cs = true) : ∀ (f g i : Nat), i < cs.length → i < f → i < g → showF cs f i = showF cs g i := by
  intro f
  induction f with
  | zero => intro g i _ h; omega
  | succ f ih =>
    intro g i hi hf hg
    cases g with
    | zero => omega
    | succ g =>
      have hc := clsOk_at hok hi
      rw [Nat.zero_add] at hc
      rw [showF, showF]
      cases hp : (cs.getD i default).1 with
      | true => rfl
      | false =>
        obtain ⟨_, a, b, ha, hb, hai, hbi⟩ := clOk_pair hc hp
        rw [ha, hb]
        simp only [Int.toNat_natCast]
        rw [ih g a (by omega) (by omega) (by omega), ih g b (by omega) (by omega) (by omega)]
theorem showC_leaf {cs : List Cl} {i : Nat} (h : (cs.getD i default).1 = true) : showC cs i = Lib.itoa (cs.getD i default).2.1 := by
  rw [showC, showF, if_pos h]
theorem showC_pair {cs : List Cl} (hok : clsOk 0 cs = true) {i a b : Nat} (hi : i < cs.length) (h : (cs.getD i default).1 = false) (ha : (cs.getD i default).2.2.1 = (a : Int)) (hb : (cs.getD i default).2.2.2 = (b : Int)) (hai : a < i) (hbi : b < i) :
    showC cs i = if 500 < (showC cs a).length + 1 then 40 :: showC cs a else 40 :: (showC cs a ++ 32 :: (showC cs b ++ [41])) := by
  rw [showC, showF, if_neg (by simp only [h]; simp), ha, hb]
  simp only [Int.toNat_natCast]
  rw [showF_fuel hok i (a + 1) a (by omega) hai (by omega), showF_fuel hok i (b + 1) b (by omega) hbi (by omega)]
  rfl
theorem showC_len {cs : List Cl} (hok : clsOk 0 cs = true) (hr : clRange cs) : ∀ i, i < cs.length → (showC cs i).length ≤ 523 * (i + 1) := by
  intro i
  induction i using Nat.strongRecOn with
  | ind i ih =>
    intro hi
    have hc := clsOk_at hok hi
    rw [Nat.zero_add] at hc
    cases hp : (cs.getD i default).1 with
    | true =>
      have := itoa_len (hr i hi).1 (hr i hi).2
      rw [showC_leaf hp]; omega
    | false =>
      obtain ⟨_, a, b, ha, hb, hai, hbi⟩ := clOk_pair hc hp
      have h1 := ih a hai (by omega)
      have h2 := ih b hbi (by omega)
      rw [showC_pair hok hi hp ha hb hai hbi]
      split
      · simp only [List.length_cons]; omega
      · simp only [List.length_cons, List.length_append, List.length_nil]; omega

def showB (cs : List Cl) (i : Nat) : ByteArray := ⟨(showC cs i).toArray⟩
theorem showB_size (cs : List Cl) (i : Nat) : (showB cs i).size = (showC cs i).length := by simp [showB, ByteArray.size]

set_option maxHeartbeats 2000000 in
set_option maxRecDepth 100000 in
theorem l7Show_any (cs : List Cl) (hok : clsOk 0 cs = true) (hl : cs.length ≤ 200) (hr : clRange cs) : ∀ (i : Nat) (v : Value) (w : World), i < cs.length → InR w v cellL 4 cs →
    Calls Tryd.prog 52 #[v, .int .i64 (i : Int)] w fun e w' => e = .returned (.string (showB cs i)) ∧ Below w.heap.size w w' := by
  intro i
  induction i using Nat.strongRecOn with
  | ind i ih =>
    intro v w hi hD
    have HI := hideT' hD
    obtain ⟨o, cap, rfl, h⟩ := hD
    have hne : cs ≠ [] := by intro e; rw [e] at hi; simp at hi
    obtain ⟨bl, rfl, hbl, hcl⟩ := h hne
    obtain ⟨d, hd⟩ : ∃ d, d = cs.getD i default := ⟨_, rfl⟩
    have hcl2 : ∀ j u, (cellL d)[j]? = some u → w.cell? ⟨bl, i * 4 + j, none⟩ = some u := fun j u hu => hcl i j u hi (by rw [← hd]; exact hu)
    have hc := clsOk_at hok hi
    rw [Nat.zero_add, ← hd] at hc
    have hrg := hr i hi
    rw [← hd] at hrg
    have hilt : (i : Int) < (cs.length : Int) := by omega
    have hz := zero_cell.1
    obtain ⟨lf, n, a, c⟩ := d
    have c0 := hcl2 0 (.bool lf) rfl
    have c1 := hcl2 1 (.int .i64 n) rfl
    have c2 := hcl2 2 (.int .i64 a) rfl
    have c3 := hcl2 3 (.int .i64 c) rfl
    rw [Nat.add_zero] at c0
    cases lf with
    | true =>
      have HN : Hid (showB cs i = numB n) := by unfold Hid showB; rw [showC_leaf (by rw [← hd]), ← hd]; rfl
      have HC : Hid (∀ w, Calls Tryd.prog 59 #[.int .i64 n] w fun e w' => e = .returned (.string (numB n)) ∧ Below w.heap.size w w') := fun w => l1NumInt_any n hrg.1 hrg.2 w
      clear hcl2 hcl hd hc hrg h ih hok hr
      go_enter Tryd.func52, Tryd.ntmps52
      go_wp2_with fail
      refine (HC.out _).mono ?_
      rintro e w1 ⟨rfl, hB⟩
      have hB2 := ((Below.refl w.heap.size w).alloc (Nat.le_refl _) (.cells #[.bool true, .int .i64 n, .int .i64 a, .int .i64 c] 99)).trans (hB.mono (by simp))
      go_wp2
      go_ret
      exact ⟨by rw [HN.out]; rfl, hB2⟩
    | false =>
      obtain ⟨hn0, A, B, hA, hBc, hAi, hBi⟩ := clOk_pair hc rfl
      simp only at hA hBc hn0
      have HP := hideT' (showC_pair hok hi (by rw [← hd]) (by rw [← hd]; exact hA) (by rw [← hd]; exact hBc) hAi hBi)
      subst hA hBc hn0
      have hBw : Below w.heap.size w (w.alloc (.cells #[.bool false, .int .i64 0, .int .i64 A, .int .i64 B] 99)) := (Below.refl w.heap.size w).alloc (Nat.le_refl _) _
      have CA := hideT' (ih A hAi _ _ (by omega) (HI.out.below hBw))
      have CB : Hid (∀ w', Below w.heap.size w w' → Calls Tryd.prog 52 #[.slice (some ⟨bl, 0, none⟩) cs.length cap, .int .i64 (B : Int)] w' fun e w'' => e = .returned (.string (showB cs B)) ∧ Below w'.heap.size w' w'') := fun w' h => ih B hBi _ _ (by omega) (HI.out.below h)
      have HLA := hideT' (showC_len hok hr A (by omega))
      have HLB := hideT' (showC_len hok hr B (by omega))
      have HR : Hid (∀ w', Below (w.heap.size + 1) (w.alloc (.cells #[.bool false, .int .i64 0, .int .i64 A, .int .i64 B] 99)) w' → w'.cell? ⟨w.heap.size, 3, none⟩ = some (.int .i64 B)) := by
        intro w' h
        have hr := RowAt.below (RowAt.new w 99 #[.bool false, .int .i64 0, .int .i64 A, .int .i64 B]) h (by omega)
        rw [cell_of_row w' _ _ _ _ _ hr]; rfl
      have HBw := hideT' hBw
      have hza : (⟨#[40]⟩ : ByteArray).size + (showB cs A).size ≤ 9223372036854775807 := by rw [showB_size]; show 1 + _ ≤ _; have := HLA.out; omega
      clear hcl2 hcl hd hc hrg h ih hok hr hBw
      go_enter Tryd.func52, Tryd.ntmps52
      go_wp2_with fail
      refine CA.out.mono ?_
      rintro e w1 ⟨rfl, hB1⟩
      have hS3 := HR.out _ (hB1.mono (by simp))
      have hB1' := HBw.out.trans (hB1.mono (by simp))
      obtain ⟨z, hzz⟩ : ∃ z, z = (showC cs A).length + 1 := ⟨_, rfl⟩
      have hzs : (⟨#[40]⟩ ++ showB cs A : ByteArray).size = z := by rw [ByteArray.size_append, showB_size, hzz]; show 1 + _ = _; omega
      have HZZ := hideT' hzz
      clear hzz
      by_cases hlong : (500 : Int) < (z : Int)
      · have HN : Hid (showB cs i = (⟨#[40]⟩ : ByteArray) ++ showB cs A) := by
          unfold Hid; unfold showB; rw [HP.out, if_pos (by have := HZZ.out; omega)]; apply ByteArray.ext; apply Array.ext'; simp
        go_wp2
        go_ret
        exact ⟨by rw [HN.out]; rfl, hB1'⟩
      · have hzb : ((⟨#[40]⟩ : ByteArray) ++ showB cs A).size + (⟨#[32]⟩ : ByteArray).size ≤ 9223372036854775807 := by show _ + 1 ≤ _; omega
        have hzc : ((⟨#[40]⟩ : ByteArray) ++ showB cs A ++ (⟨#[32]⟩ : ByteArray)).size + (showB cs B).size ≤ 9223372036854775807 := by rw [ByteArray.size_append, showB_size cs B]; show _ + 1 + _ ≤ _; have := HLB.out; have := HZZ.out; omega
        have hzd : ((⟨#[40]⟩ : ByteArray) ++ showB cs A ++ (⟨#[32]⟩ : ByteArray) ++ showB cs B).size + (⟨#[41]⟩ : ByteArray).size ≤ 9223372036854775807 := by rw [ByteArray.size_append, ByteArray.size_append, showB_size cs B]; show _ + 1 + _ + 1 ≤ _; have := HLB.out; have := HZZ.out; omega
        have HN : Hid (showB cs i = (⟨#[40]⟩ : ByteArray) ++ showB cs A ++ (⟨#[32]⟩ : ByteArray) ++ showB cs B ++ (⟨#[41]⟩ : ByteArray)) := by
          unfold Hid; unfold showB; rw [HP.out, if_neg (by have := HZZ.out; omega)]; apply ByteArray.ext; apply Array.ext'; simp
        go_wp2_with fail
        refine (CB.out _ hB1').mono ?_
        rintro e w2 ⟨rfl, hB2⟩
        have hB2' := hB1'.trans (hB2.mono hB1'.size)
        go_wp2
        go_ret
        exact ⟨by rw [HN.out]; rfl, hB2'⟩

theorem hpOk_parts {h : Hp} (hk : hpOk h = true) : h.cells.length ≤ 200 ∧ clsOk 0 h.cells = true := by
  unfold hpOk at hk
  simp only [Bool.and_eq_true, decide_eq_true_eq] at hk
  exact ⟨hk.1, hk.2.2.2.1⟩
def showOut (h : Hp) (at_ : Int) : ByteArray × Bool :=
  if hpOk h && (decide (0 ≤ at_) && decide (at_ ≤ (h.cells.length : Int) - 1)) then (if 500 < (showC h.cells at_.toNat).length then (⟨#[]⟩, false) else (showB h.cells at_.toNat, true)) else (⟨#[]⟩, false)

set_option maxHeartbeats 2000000 in
set_option maxRecDepth 100000 in
theorem specShowCell_any (m : Hp) (at_ : Int) (v1 v2 : Value) (w : World) (hs : HpSmall m 1048576) (hM : HpRd w v1 v2 m) (hr : clRange m.cells) :
    Calls Tryd.prog 22 #[.agg #[.int .i64 m.old, v1, v2], .int .i64 at_] w fun e w' => e = .returned (.tuple #[.string (showOut m at_).1, .bool (showOut m at_).2]) ∧ Below w.heap.size w w' := by
  obtain ⟨o1, c1, e1, x1⟩ := hM.1
  obtain ⟨o2, c2, e2, x2⟩ := hM.2
  clear x1 x2
  subst e1 e2
  have hB : Below w.heap.size w (w.alloc (.cells #[.int .i64 m.old, .slice o1 m.cells.length c1, .slice o2 m.roots.length c2] 50)) := (Below.refl _ _).alloc (Nat.le_refl _) _
  have HF : Hid (∀ w', Below (w.heap.size + 1) (w.alloc (.cells #[.int .i64 m.old, .slice o1 m.cells.length c1, .slice o2 m.roots.length c2] 50)) w' → w'.cell? ⟨w.heap.size, 1, none⟩ = some (.slice o1 m.cells.length c1)) := by
    intro w' h
    have hr := RowAt.below (RowAt.new w 50 #[.int .i64 m.old, .slice o1 m.cells.length c1, .slice o2 m.roots.length c2]) h (by omega)
    rw [cell_of_row w' _ _ _ _ _ hr]; rfl
  have HG := hideT' (specGoodHeap_any m _ _ _ hs (hM.below hB))
  have HM := hideT' hM
  have HR := hideT' hr
  have HB := hideT' hB
  have hsz := hs.1
  clear hM hr hB
  go_enter Tryd.func22, Tryd.ntmps22
  go_wp2_with fail
  refine HG.out.mono ?_
  rintro e w1 ⟨rfl, hB1⟩
  have hS1 := HF.out _ (hB1.mono (by simp))
  have hB1' := HB.out.trans (hB1.mono (by simp))
  obtain ⟨q, hq⟩ : ∃ q, q = hpOk m := ⟨_, rfl⟩
  rw [← hq]
  have HQ := hideT' hq
  clear hq
  cases q with
  | false =>
    have HN : Hid (showOut m at_ = (⟨#[]⟩, false)) := by unfold Hid showOut; rw [← HQ.out]; rfl
    go_wp2
    go_ret2
    exact ⟨by rw [HN.out]; rfl, hB1'⟩
  | true =>
  have HOK := hideT' (hpOk_parts HQ.out.symm)
  have hlen : m.cells.length ≤ 200 := HOK.out.1
  go_wp2_with fail
  refine (l1In_any at_ 0 ((m.cells.length : Int) - 1) _).mono ?_
  rintro e w2 ⟨rfl, rfl⟩
  obtain ⟨q2, hq2⟩ : ∃ q, q = (decide ((0 : Int) ≤ at_) && decide (at_ ≤ (m.cells.length : Int) - 1)) := ⟨_, rfl⟩
  rw [← hq2]
  have HQ2 := hideT' hq2
  clear hq2
  cases q2 with
  | false =>
    have HN : Hid (showOut m at_ = (⟨#[]⟩, false)) := by unfold Hid showOut; rw [← HQ.out, ← HQ2.out]; rfl
    go_wp2
    go_ret2
    exact ⟨by rw [HN.out]; rfl, hB1'⟩
  | true =>
  obtain ⟨i, hi, rfl⟩ : ∃ i : Nat, i < m.cells.length ∧ at_ = (i : Int) := by
    have := HQ2.out.symm
    simp only [Bool.and_eq_true, decide_eq_true_eq] at this
    exact ⟨at_.toNat, by omega, by omega⟩
  have HN : Hid (showOut m (i : Int) = if 500 < (showC m.cells i).length then (⟨#[]⟩, false) else (showB m.cells i, true)) := by unfold Hid showOut; rw [← HQ.out, ← HQ2.out]; rfl
  have HC := hideT' (l7Show_any m.cells HOK.out.2 HOK.out.1 HR.out i _ _ hi (HM.out.below hB1').1)
  go_wp2_with fail
  refine HC.out.mono ?_
  rintro e w3 ⟨rfl, hB3⟩
  have hB3' := hB1'.trans (hB3.mono hB1'.size)
  have hzs := showB_size m.cells i
  obtain ⟨z, hzz⟩ : ∃ z, z = (showC m.cells i).length := ⟨_, rfl⟩
  rw [← hzz] at hzs
  have HZZ := hideT' hzz
  clear hzz
  by_cases hlong : (500 : Int) < (z : Int)
  · have HN2 : Hid (showOut m (i : Int) = (⟨#[]⟩, false)) := by unfold Hid; rw [HN.out, if_pos (by have := HZZ.out; omega)]
    go_wp2
    go_ret2
    exact ⟨by rw [HN2.out]; rfl, hB3'⟩
  · have HN2 : Hid (showOut m (i : Int) = (showB m.cells i, true)) := by unfold Hid; rw [HN.out, if_neg (by have := HZZ.out; omega)]
    go_wp2
    go_ret2
    exact ⟨by rw [HN2.out]; rfl, hB3'⟩
end Go.Proofs.YtelciainidklgaaDoor
