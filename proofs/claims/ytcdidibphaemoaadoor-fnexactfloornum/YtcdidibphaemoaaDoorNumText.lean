/-
  What isOne and the texts of whole numbers and fractions of impl answer.
-/
import Derived.Test.YtcdidibphaemoaaDoorIsOne
import Derived.Test.YtcdidibphaemoaaDoorHeldMid
import Derived.Test.YtcdidibphaemoaaDoorImplDigits
namespace Go.Proofs.YtcdidibphaemoaaDoor
open Go.RowKit
set_option linter.unusedVariables false

theorem InRad.size_le {b n : Nat} {s : ByteArray} (h : InRad b n s) (hb : 2 ≤ b) (hn : n < 10 ^ 600) : s.size ≤ 2400 := by
  obtain ⟨j, hj, e⟩ := h
  have hs : s.size = j := by
    have h1 : s.data.toList.length = s.size := by simp
    rw [← h1, e, List.length_reverse, digs_len]
  rw [hs]
  by_cases h1 : j = 1
  · omega
  · have h2 := hj.2.2 (j - 1) (by have := hj.1; omega) (by have := hj.1; omega)
    have := room_gen (T := 600) (K := 0) hb hn (pow_le_of_div (by omega) h2)
    omega

/-- s is the text of the whole number in the radix b. -/
def WholeR (b : Nat) (g : Bool) (n : Nat) (s : ByteArray) : Prop := ∃ t : ByteArray, InRad b n t ∧ s.data.toList = (if g then [45] else []) ++ t.data.toList
/-- s is the text of the fraction in the radix b. -/
def NumR (b : Nat) (g : Bool) (n m : Nat) (s : ByteArray) : Prop := ∃ t u : ByteArray, InRad b n t ∧ InRad b m u ∧ s.data.toList = (if g then [45] else []) ++ t.data.toList ++ (if m = 1 then [] else 47 :: u.data.toList)
theorem NumR.inj {b : Nat} {g : Bool} {n m : Nat} {s s' : ByteArray} (h : NumR b g n m s) (h' : NumR b g n m s') : s = s' := by
  obtain ⟨t, u, h1, h2, h3⟩ := h
  obtain ⟨t', u', h1', h2', h3'⟩ := h'
  obtain rfl := h1.inj h1'
  obtain rfl := h2.inj h2'
  exact Go.WideShapes.bytes_inj (by rw [h3, h3'])

set_option maxHeartbeats 400000 in
set_option maxRecDepth 100000 in
theorem wholeText_any {n k : Nat} {p : List Int} (g : Bool) (b : Nat) (r : Int) (w : World) (hP : Rep n k p) (hk : k ≤ 100) (hr : r = (b : Int)) (hr0 : 2 ≤ r) (hr1 : r ≤ 16) (hT : Tab w.heap.size w) :
    Calls Tryd.prog 55 #[.agg (wholeC g k p), .int .i64 r] w fun e w' => ∃ s : ByteArray, e = .returned (.string s) ∧ WholeR b g n s ∧ Below w.heap.size w w' := by
  have hz := zero_nat.1
  have hz1 := zero_whole.1
  have hp := hP.len
  have A := WholeAt.new w g k p
  have hB : Below w.heap.size w (w.alloc (.cells (wholeC g k p) 43)) := (Below.refl _ _).alloc (Nat.le_refl _) _
  have a0 := A.neg
  have HT : Hid (Tab (w.alloc (.cells (wholeC g k p) 43)).heap.size (w.alloc (.cells (wholeC g k p) 43))) := (hT.on hB).up hB.size
  have HP := hide hP
  have HR := hide hr
  clear hP hT hr
  cases g with
  | true =>
    go_enter Tryd.func55, Tryd.ntmps55
    go_wp2_with (refine load_mid_nat rfl _ rfl w.heap.size 1 rfl k p A.size hp ?_)
    refine (digits_any b r _ HP.out hk HR.out hr0 hr1 HT.out).mono ?_
    rintro e w1 ⟨t, rfl, hI, hW1⟩
    have HI := hide hI
    have hts := hI.size_le (by have := HR.out; omega) (HP.out.fits.1 hk)
    clear hI
    go_wp2
    go_ret
    refine ⟨_, rfl, ⟨t, HI.out, ?_⟩, hB.trans (hW1.mono (by simp))⟩
    simp [ByteArray.data_append]
  | false =>
    go_enter Tryd.func55, Tryd.ntmps55
    go_wp2_with (refine load_mid_nat rfl _ rfl w.heap.size 1 rfl k p A.size hp ?_)
    refine (digits_any b r _ HP.out hk HR.out hr0 hr1 HT.out).mono ?_
    rintro e w1 ⟨t, rfl, hI, hW1⟩
    have HI := hide hI
    clear hI
    go_wp2
    go_ret
    exact ⟨_, rfl, ⟨t, HI.out, by simp⟩, hB.trans (hW1.mono (by simp))⟩

set_option maxHeartbeats 1000000 in
set_option maxRecDepth 100000 in
theorem numText_any {n m k j : Nat} {p q : List Int} (g : Bool) (b : Nat) (r : Int) (w : World) (hP : Rep n k p) (hQ : Rep m j q) (hk : k ≤ 100) (hj : j ≤ 100) (hr : r = (b : Int)) (hr0 : 2 ≤ r) (hr1 : r ≤ 16) (hT : Tab w.heap.size w) :
    Calls Tryd.prog 68 #[.agg (numC g k p j q), .int .i64 r] w fun e w' => ∃ s : ByteArray, e = .returned (.string s) ∧ NumR b g n m s ∧ Below w.heap.size w w' := by
  have hz := zero_nat.1
  have hz1 := zero_whole.1
  have hp := hP.len
  have hq := hQ.len
  have A := NumAt.new w g k p j q
  have hB : Below w.heap.size w (w.alloc (.cells (numC g k p j q) 45)) := (Below.refl _ _).alloc (Nat.le_refl _) _
  have HT := hide hT
  have HP := hide hP
  have HQ := hide hQ
  have HR := hide hr
  clear hP hQ hT hr
  go_enter Tryd.func68, Tryd.ntmps68
  go_wp2_with (refine load_num rfl _ rfl w.heap.size rfl g k p j q A hp hq ?_)
  refine (isWhole_any (n := n) g _ hp HQ.out).mono ?_
  rintro e w1 ⟨rfl, hW1⟩
  have A1 : NumAt w1 w.heap.size g k p j q := A.below hW1 (by simp)
  have hB1 : Below w.heap.size w w1 := hB.trans (hW1.mono (by simp))
  have HT1 : Hid (Tab w1.heap.size w1) := (HT.out.on hB1).up hB1.size
  have hs1 := hW1.size
  simp only [World.size_alloc] at hs1
  clear A hB hW1
  by_cases hm : m = 1
  · rw [decide_eq_true hm]
    go_wp2_with (refine load_mid_whole rfl _ rfl w.heap.size 0 rfl g k p A1.whole hp ?_)
    refine (wholeText_any g b r w1 HP.out hk HR.out hr0 hr1 HT1.out).mono ?_
    rintro e w2 ⟨s, rfl, ⟨t, ht, hs⟩, hW2⟩
    have HS : Hid (NumR b g n m s) := by
      obtain ⟨u, hu⟩ : ∃ u : ByteArray, InRad b m u := by
        rw [hm]
        refine ⟨⟨(digs b 1 1).reverse.toArray⟩, 1, ⟨by omega, ?_, fun i h1 h2 => by omega⟩, by simp⟩
        rw [Nat.pow_one]; exact Nat.div_eq_of_lt (by have := HR.out; omega)
      exact ⟨t, u, ht, hu, by rw [hs, if_pos hm, List.append_nil]⟩
    clear ht hs
    go_wp2
    go_ret
    exact ⟨s, rfl, HS.out, hB1.trans (hW2.mono (by omega))⟩
  · rw [decide_eq_false hm]
    go_wp2_with fail
    refine held_begin (fun w' => NumAt w' w.heap.size g k p j q) (by kernel_rfl) ?_
    have hS : NumAt w1.drew w.heap.size g k p j q := A1
    refine held_valS 0 (some 11) rfl rfl (by kernel_rfl) (by kernel_rfl) (by kernel_rfl) noPanic_put rfl (.pointer (some ⟨w.heap.size, 0, none⟩)) (fun _ _ => by go_simp) hS ?_
    simp only [Act.put, List.setIfInBounds_toArray, List.set_cons_zero, List.set_cons_succ]
    refine held_valS 1 (some 12) rfl rfl (by kernel_rfl) (by kernel_rfl) (by kernel_rfl) noPanic_put rfl (.agg (wholeC g k p)) (fun _ h => run_mid_whole _ rfl w.heap.size 0 rfl g k p h.whole hp) hS ?_
    simp only [Act.put, List.setIfInBounds_toArray, List.set_cons_zero, List.set_cons_succ]
    refine held_valS 2 (some 13) rfl rfl (by kernel_rfl) (by kernel_rfl) (by kernel_rfl) noPanic_put rfl (.int .i64 r) (fun _ _ => rfl) hS ?_
    simp only [Act.put, List.setIfInBounds_toArray, List.set_cons_zero, List.set_cons_succ]
    refine held_valS 5 (some 16) rfl rfl (by kernel_rfl) (by kernel_rfl) (by kernel_rfl) noPanic_put rfl (.pointer (some ⟨w.heap.size, 206, none⟩)) (fun _ _ => by go_simp) hS ?_
    simp only [Act.put, List.setIfInBounds_toArray, List.set_cons_zero, List.set_cons_succ]
    refine held_valS 6 (some 17) rfl rfl (by kernel_rfl) (by kernel_rfl) (by kernel_rfl) noPanic_put rfl (.agg (natC j q)) (fun _ h => run_mid_nat _ rfl w.heap.size 206 rfl j q (h.bottom hp) hq) hS ?_
    simp only [Act.put, List.setIfInBounds_toArray, List.set_cons_zero, List.set_cons_succ]
    refine held_valS 7 (some 18) rfl rfl (by kernel_rfl) (by kernel_rfl) (by kernel_rfl) noPanic_put rfl (.int .i64 r) (fun _ _ => rfl) hS ?_
    simp only [Act.put, List.setIfInBounds_toArray, List.set_cons_zero, List.set_cons_succ]
    have HT1' : Hid (Tab w1.drew.heap.size w1.drew) := (HT.out.on hB1.drew).up hB1.drew.size
    refine held_call 3 (some 14) (by kernel_rfl) rfl rfl rfl 55 #[.agg (wholeC g k p), .int .i64 r] (by go_simp) _ (wholeText_any g b r w1.drew HP.out hk HR.out hr0 hr1 HT1'.out) ?_
    rintro e w2 ⟨s, rfl, ⟨t, ht, hs⟩, hW2⟩
    have hW2 : Below w1.heap.size w1 w2 := ⟨hW2.os, hW2.tape, hW2.output, hW2.size, hW2.block⟩
    have hts := ht.size_le (by have := HR.out; omega) (HP.out.fits.1 hk)
    have hss : s.size ≤ 2401 := by
      have h1 : s.data.toList.length = s.size := by simp
      have h2 : t.data.toList.length = t.size := by simp
      rw [← h1, hs, List.length_append, h2]
      cases g <;> simp <;> omega
    have HS := hide (And.intro ht hs)
    clear ht hs
    have A2 : NumAt w2 w.heap.size g k p j q := A1.below hW2 (by omega)
    have hB2 : Below w.heap.size w w2 := hB1.trans (hW2.mono (by omega))
    have HT2 : Hid (Tab w2.heap.size w2) := (HT.out.on hB2).up hB2.size
    refine ⟨_, rfl, A2, ?_⟩
    simp only [Act.put, List.setIfInBounds_toArray, List.set_cons_zero, List.set_cons_succ]
    refine held_valS 4 (some 15) rfl rfl (by kernel_rfl) (by kernel_rfl) (by kernel_rfl) noPanic_put rfl (.string (s ++ ⟨#[47]⟩)) (fun _ _ => by go_simp; omega) A2 ?_
    simp only [Act.put, List.setIfInBounds_toArray, List.set_cons_zero, List.set_cons_succ]
    refine held_call 8 (some 19) (by kernel_rfl) rfl rfl rfl 95 #[.agg (natC j q), .int .i64 r] (by go_simp) _ (digits_any b r w2 HQ.out hj HR.out hr0 hr1 HT2.out) ?_
    rintro e w3 ⟨u, rfl, hu, hW3⟩
    have hus := hu.size_le (by have := HR.out; omega) (HQ.out.fits.1 hj)
    have A3 : NumAt w3 w.heap.size g k p j q := A2.below hW3 (by have := hW2.size; omega)
    have hB3 : Below w.heap.size w w3 := hB2.trans (hW3.mono hB2.size)
    refine ⟨_, rfl, A3, ?_⟩
    simp only [Act.put, List.setIfInBounds_toArray, List.set_cons_zero, List.set_cons_succ]
    have hsz : (s ++ (⟨#[47]⟩ : ByteArray)).size ≤ 2402 := by rw [ByteArray.size_append]; have : (⟨#[47]⟩ : ByteArray).size = 1 := rfl; omega
    refine held_valS 9 (some 20) rfl rfl (by kernel_rfl) (by kernel_rfl) (by kernel_rfl) noPanic_put rfl (.string (s ++ ⟨#[47]⟩ ++ u)) (fun _ _ => by go_simp; omega) A3 ?_
    simp only [Act.put, List.setIfInBounds_toArray, List.set_cons_zero, List.set_cons_succ]
    refine held_assign 10 (some 4) (by kernel_rfl) rfl rfl _ rfl rfl (.string (s ++ ⟨#[47]⟩ ++ u)) rfl A3 ?_
    simp only [Act.put, List.setIfInBounds_toArray, List.set_cons_zero, List.set_cons_succ]
    refine wpAnyH_done (by kernel_rfl) ?_ _
    refine NoPanic.normal ?_
    have HU := hide hu
    go_wp2
    go_ret
    refine ⟨_, rfl, ⟨t, u, HS.out.1, HU.out, ?_⟩, hB3⟩
    rw [if_neg hm, ByteArray.data_append, ByteArray.data_append, Array.toList_append, Array.toList_append, HS.out.2]
    simp

end Go.Proofs.YtcdidibphaemoaaDoor
