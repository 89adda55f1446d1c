/-
  The texts TxtMath, CbTxtMath, CbSpecLc, CbSpecTxt, HeldTxt, CbImplTxt, CbTxtT, MarkComb, CbTermArg, one behind the other, as one.
-/
import Derived.Test.YtgolfbjfopoeeaaDoorTailCombTextB
import Derived.Test.YtgolfbjfopoeeaaDoorTailCombTextA
import Derived.Test.YtgolfbjfopoeeaaDoorBaseLate
import Derived.Test.YtgolfbjfopoeeaaDoorHeapTab
import Derived.Test.YtgolfbjfopoeeaaDoorCbTreeMem
import Derived.Test.YtgolfbjfopoeeaaDoorCbTreeTop
import Derived.Test.YtgolfbjfopoeeaaDoorRecs2
import Derived.Test.YtgolfbjfopoeeaaDoorRecComb
import Derived.Test.YtgolfbjfopoeeaaDoorRecArg

/-
  Texts of terms (plain).
-/
namespace Go.Proofs.YtgolfbjfopoeeaaDoor
set_option linter.unusedVariables false

/-- The text of a term. -/
def Lm.txt : Lm → List UInt8
  | .var n => Lib.itoa n
  | .lam t => 92 :: t.txt
  | .app a b => 40 :: (a.txt ++ 32 :: (b.txt ++ [41]))
theorem itoa_dig {n : Int} (h0 : 0 ≤ n) : canonB (Lib.itoa n) = true ∧ dval (Lib.itoa n) = n.toNat := by
  obtain ⟨k, rfl⟩ := Int.eq_ofNat_of_zero_le h0
  rw [itoa_nat]; simpa using dec_canon k
theorem itoa_le {n : Int} (h0 : 0 ≤ n) (k : Nat) (hk : 1 ≤ k) (h : n.toNat < 10 ^ k) : (Lib.itoa n).length ≤ k := (canon_len_le (itoa_dig h0).1 k hk).2 (by rw [(itoa_dig h0).2]; exact h)
theorem itoa_pos {n : Int} (h0 : 0 ≤ n) : ∃ c m, Lib.itoa n = c :: m ∧ isDig c = true := by
  have h := (itoa_dig h0).1
  cases e : Lib.itoa n with
  | nil => rw [e] at h; simp [canonB] at h
  | cons c m => rw [e] at h; simp only [canonB, List.all_cons, Bool.and_eq_true] at h; exact ⟨c, m, rfl, h.1.1⟩
theorem itoa_all {n : Int} (h0 : 0 ≤ n) : (Lib.itoa n).all isDig = true := by
  have h := (itoa_dig h0).1
  unfold canonB at h
  simp only [Bool.and_eq_true] at h
  exact h.1
theorem Lm.txt_len : ∀ {t : Lm}, t.ok = true → t.txt.length ≤ 3 * t.sz
  | .var n, h => by
    simp only [Lm.ok, Bool.and_eq_true, decide_eq_true_eq] at h
    have := itoa_le (n := n) h.1 2 (by omega) (by omega)
    simp only [Lm.txt, Lm.sz]; omega
  | .lam t, h => by have := Lm.txt_len (t := t) h; simp only [Lm.txt, Lm.sz, List.length_cons]; omega
  | .app a b, h => by
    simp only [Lm.ok, Bool.and_eq_true] at h
    have h1 := Lm.txt_len h.1
    have h2 := Lm.txt_len h.2
    simp only [Lm.txt, Lm.sz, List.length_cons, List.length_append, List.length_nil]; omega

end Go.Proofs.YtgolfbjfopoeeaaDoor

/-
  Texts of combinators (plain).
-/
namespace Go.Proofs.YtgolfbjfopoeeaaDoor.CB
set_option linter.unusedVariables false

/-- The text of a combinator. -/
def Leaf.txt : Leaf → List UInt8
  | .v n => 120 :: Lib.itoa n
  | .s => [83]
  | .k => [75]
  | .i => [73]
def Lm.txt : Lm → List UInt8
  | .var c => c.txt
  | .app a b => 40 :: (a.txt ++ 32 :: (b.txt ++ [41]))
theorem Leaf.txt_len {c : Leaf} (h : c.ok = true) : 0 < c.txt.length ∧ c.txt.length ≤ 4 := by
  cases c with
  | v n =>
    simp only [Leaf.ok, Bool.and_eq_true, decide_eq_true_eq] at h
    have := itoa_le (n := n) h.1 3 (by omega) (by omega)
    simp only [Leaf.txt, List.length_cons]; omega
  | s => exact ⟨by decide, by decide⟩
  | k => exact ⟨by decide, by decide⟩
  | i => exact ⟨by decide, by decide⟩
theorem Lm.txt_len : ∀ {t : Lm}, t.ok = true → t.txt.length ≤ 4 * t.sz
  | .var n, h => by have := Leaf.txt_len (c := n) h; simp only [Lm.txt, Lm.sz]; omega
  | .app a b, h => by
    simp only [Lm.ok, Bool.and_eq_true] at h
    have h1 := Lm.txt_len h.1
    have h2 := Lm.txt_len h.2
    simp only [Lm.txt, Lm.sz, List.length_cons, List.length_append, List.length_nil]; omega
end Go.Proofs.YtgolfbjfopoeeaaDoor.CB

/-
  What the small makers of trees of the model answer: lcVar, lcLam, lcApp.
-/
namespace Go.Proofs.YtgolfbjfopoeeaaDoor.CB
open Go.RowKit BL
set_option linter.unusedVariables false

set_option maxHeartbeats 1000000 in
theorem ldOne_any (k : Int) (w : World) : Calls Tryd.prog 65 #[.int .i64 k] w fun e w' => e = .returned (.agg (lcC k 0 (.slice none 0 0))) ∧ Below w.heap.size w w' := by
  have hz := zero_lcT.1
  have HR := hideT' (RowAt.new w 70 #[.int .i64 k, .int .i64 0, .slice none 0 0])
  unfold lcC
  go_enter Tryd.func65, Tryd.ntmps65
  go_wp2
  refine bodyPost_ret (v := .agg #[.int .i64 k, .int .i64 0, .slice none 0 0]) (results_cell_row Tryd.results65 _ _ w.heap.size 70 #[.int .i64 k, .int .i64 0, .slice none 0 0] (0, 0) _ rfl HR.out Tryd.underlying70 rfl zero_lcT.2) rfl ⟨rfl, (Below.refl _ _).alloc (Nat.le_refl _) _⟩
set_option maxHeartbeats 2000000 in
theorem lcApp_any (s t : Lm) (z1 z2 : Value) (P : Nat → Prop) (w : World) (h1 : LcIn w P s z1) (h2 : LcIn w P t z2) :
    Calls Tryd.prog 66 #[.agg (lcC s.kd s.nm z1), .agg (lcC t.kd t.nm z2)] w fun e w' => (∃ z', e = .returned (.agg (lcC 2 0 z')) ∧ LcIn w' (fun x => P x ∨ w.heap.size ≤ x) (.app s t) z') ∧ Below w.heap.size w w' := by
  have hz := zero_lcT.1
  obtain ⟨o1, c1, rfl⟩ := h1.form
  obtain ⟨o2, c2, rfl⟩ := h2.form
  obtain ⟨W, hW⟩ : ∃ W, W = (((w.alloc (.cells #[.int .i64 s.kd, .int .i64 s.nm, .slice o1 s.kids.length c1] 70)).alloc (.cells #[.int .i64 t.kd, .int .i64 t.nm, .slice o2 t.kids.length c2] 70)).alloc (.cells #[.int .i64 2, .int .i64 0, .slice (some ⟨w.heap.size + 1 + 1 + 1, 0, none⟩) 2 2] 70)).alloc (.cells #[.int .i64 s.kd, .int .i64 s.nm, .slice o1 s.kids.length c1, .int .i64 t.kd, .int .i64 t.nm, .slice o2 t.kids.length c2] 70) := ⟨_, rfl⟩
  have hB : Below w.heap.size w W := by rw [hW]; exact ((((Below.refl _ _).alloc (Nat.le_refl _) _).alloc (by simp) _).alloc (by simp; omega) _).alloc (by simp; omega) _
  have hR : RowAt W (w.heap.size + 1 + 1) 70 #[.int .i64 2, .int .i64 0, .slice (some ⟨w.heap.size + 1 + 1 + 1, 0, none⟩) 2 2] := by
    rw [hW]
    have := RowAt.new ((w.alloc (.cells #[.int .i64 s.kd, .int .i64 s.nm, .slice o1 s.kids.length c1] 70)).alloc (.cells #[.int .i64 t.kd, .int .i64 t.nm, .slice o2 t.kids.length c2] 70)) 70 #[.int .i64 2, .int .i64 0, .slice (some ⟨w.heap.size + 1 + 1 + 1, 0, none⟩) 2 2]
    rw [World.size_alloc, World.size_alloc] at this
    exact RowAt.old this _
  have hK : RowAt W (w.heap.size + 1 + 1 + 1) 70 #[.int .i64 s.kd, .int .i64 s.nm, .slice o1 s.kids.length c1, .int .i64 t.kd, .int .i64 t.nm, .slice o2 t.kids.length c2] := by
    rw [hW]
    have := RowAt.new (((w.alloc (.cells #[.int .i64 s.kd, .int .i64 s.nm, .slice o1 s.kids.length c1] 70)).alloc (.cells #[.int .i64 t.kd, .int .i64 t.nm, .slice o2 t.kids.length c2] 70)).alloc (.cells #[.int .i64 2, .int .i64 0, .slice (some ⟨w.heap.size + 1 + 1 + 1, 0, none⟩) 2 2] 70)) 70 #[.int .i64 s.kd, .int .i64 s.nm, .slice o1 s.kids.length c1, .int .i64 t.kd, .int .i64 t.nm, .slice o2 t.kids.length c2]
    rw [World.size_alloc, World.size_alloc, World.size_alloc] at this
    exact this
  have HF : Hid (LcIn W (fun x => P x ∨ w.heap.size ≤ x) (.app s t) (.slice (some ⟨w.heap.size + 1 + 1 + 1, 0, none⟩) 2 2) ∧ Below w.heap.size w W ∧ RowAt W (w.heap.size + 1 + 1) 70 #[.int .i64 2, .int .i64 0, .slice (some ⟨w.heap.size + 1 + 1 + 1, 0, none⟩) 2 2]) := by
    refine ⟨⟨w.heap.size + 1 + 1 + 1, 2, .slice o1 s.kids.length c1, .slice o2 t.kids.length c2, rfl, ⟨hK.lt, .inr (by omega)⟩, ⟨?_, ?_, ?_⟩, ⟨?_, ?_, ?_⟩, LcIn.keep (w := w) hB.size (fun x _ hx => hB.block x hx) (fun x hx _ => .inl hx) h1, LcIn.keep (w := w) hB.size (fun x _ hx => hB.block x hx) (fun x hx _ => .inl hx) h2⟩, hB, hR⟩ <;> (rw [cell_of_row _ _ _ _ _ _ hK]; rfl)
  clear h1 h2 hB hR hK
  unfold lcC
  go_enter Tryd.func66, Tryd.ntmps66
  go_wp2
  rw [← hW]
  exact bodyPost_ret (v := .agg #[.int .i64 2, .int .i64 0, .slice (some ⟨w.heap.size + 1 + 1 + 1, 0, none⟩) 2 2]) (results_cell_row Tryd.results66 _ _ (w.heap.size + 1 + 1) 70 #[.int .i64 2, .int .i64 0, .slice (some ⟨w.heap.size + 1 + 1 + 1, 0, none⟩) 2 2] (0, 0) _ rfl HF.out.2.2 Tryd.underlying70 rfl zero_lcT.2) rfl ⟨⟨_, rfl, HF.out.1⟩, HF.out.2.1⟩
end Go.Proofs.YtgolfbjfopoeeaaDoor.CB

/-
  What ldText of the model answers: the text of a tree.
-/
namespace Go.Proofs.YtgolfbjfopoeeaaDoor.CB
open Go.RowKit BL
set_option linter.unusedVariables false

set_option maxHeartbeats 8000000 in
set_option maxRecDepth 100000 in
theorem ldText_any : ∀ (t : Lm), t.ok = true → t.txt.length ≤ 10000000 → ∀ (z : Value) (P : Nat → Prop) (w : World), LcIn w P t z →
    Calls Tryd.prog 37 #[.agg (lcC t.kd t.nm z)] w fun e w' => e = .returned (.string ⟨t.txt.toArray⟩) ∧ Below w.heap.size w w'
  | .var (.v n), hok, hlen, z, P, w, hz => by
    simp only [Lm.ok, Leaf.ok, Bool.and_eq_true, decide_eq_true_eq] at hok
    obtain ⟨k, rfl⟩ := Int.eq_ofNat_of_zero_le hok.1
    obtain ⟨o, c, rfl⟩ := hz
    have hBW : Below w.heap.size w (w.alloc (.cells #[.int .i64 1, .int .i64 (k : Int), .slice o 0 c] 70)) := (Below.refl _ _).alloc (Nat.le_refl _) _
    have HC := hideT' (l1NumN_any k (by omega) (w.alloc (.cells #[.int .i64 1, .int .i64 (k : Int), .slice o 0 c] 70)))
    have HB := hideT' hBW
    have hxs : (numB (k : Int)).size ≤ 19 := numB_nat_size k (by omega)
    obtain ⟨xa, hxa⟩ : ∃ xa : ByteArray, xa = numB (k : Int) := ⟨_, rfl⟩
    rw [← hxa] at HC hxs
    have HN : Hid ((⟨(Lm.var (.v (k : Int))).txt.toArray⟩ : ByteArray) = (⟨#[120]⟩ : ByteArray) ++ xa) := by unfold Hid; rw [hxa]; apply ByteArray.ext; apply Array.ext'; simp [Lm.txt, Leaf.txt, numB]
    have hza : (⟨#[120]⟩ : ByteArray).size + xa.size ≤ 9223372036854775807 := by show 1 + _ ≤ _; omega
    show Calls Tryd.prog 37 #[.agg #[.int .i64 1, .int .i64 (k : Int), .slice o 0 c]] w _
    clear hok hlen hBW hxa hxs
    go_enter Tryd.func37, Tryd.ntmps37
    go_wp2_with fail
    refine HC.out.mono ?_
    rintro e w1 ⟨rfl, hB1⟩
    have HB1 : Hid (Below w.heap.size w w1) := HB.out.trans (hB1.mono (by simp))
    clear hB1
    go_wp2
    go_ret
    exact ⟨by rw [HN.out]; rfl, HB1.out⟩
  | .var .s, hok, hlen, z, P, w, hz => by
    obtain ⟨o, c, rfl⟩ := hz
    have hBW : Below w.heap.size w (w.alloc (.cells #[.int .i64 3, .int .i64 0, .slice o 0 c] 70)) := (Below.refl _ _).alloc (Nat.le_refl _) _
    have HB := hideT' hBW
    show Calls Tryd.prog 37 #[.agg #[.int .i64 3, .int .i64 0, .slice o 0 c]] w _
    clear hok hlen hBW
    go_enter Tryd.func37, Tryd.ntmps37
    go_wp2
    go_ret
    exact ⟨rfl, HB.out⟩
  | .var .k, hok, hlen, z, P, w, hz => by
    obtain ⟨o, c, rfl⟩ := hz
    have hBW : Below w.heap.size w (w.alloc (.cells #[.int .i64 4, .int .i64 0, .slice o 0 c] 70)) := (Below.refl _ _).alloc (Nat.le_refl _) _
    have HB := hideT' hBW
    show Calls Tryd.prog 37 #[.agg #[.int .i64 4, .int .i64 0, .slice o 0 c]] w _
    clear hok hlen hBW
    go_enter Tryd.func37, Tryd.ntmps37
    go_wp2
    go_ret
    exact ⟨rfl, HB.out⟩
  | .var .i, hok, hlen, z, P, w, hz => by
    obtain ⟨o, c, rfl⟩ := hz
    have hBW : Below w.heap.size w (w.alloc (.cells #[.int .i64 5, .int .i64 0, .slice o 0 c] 70)) := (Below.refl _ _).alloc (Nat.le_refl _) _
    have HB := hideT' hBW
    show Calls Tryd.prog 37 #[.agg #[.int .i64 5, .int .i64 0, .slice o 0 c]] w _
    clear hok hlen hBW
    go_enter Tryd.func37, Tryd.ntmps37
    go_wp2
    go_ret
    exact ⟨rfl, HB.out⟩
  | .app a b, hok, hlen, z, P, w, hz => by
    obtain ⟨g, cz, za, zb, rfl, hg, ⟨a0, a1, a2⟩, ⟨b0, b1, b2⟩, ha, hb⟩ := hz
    have hal : a.txt.length + b.txt.length + 3 ≤ 10000000 := by simp only [Lm.txt, List.length_cons, List.length_append, List.length_nil] at hlen; omega
    simp only [Lm.ok, Bool.and_eq_true] at hok
    obtain ⟨W, hW⟩ : ∃ W, W = w.alloc (.cells #[.int .i64 2, .int .i64 0, .slice (some ⟨g, 0, none⟩) 2 cz] 70) := ⟨_, rfl⟩
    have hBW : Below w.heap.size w W := by rw [hW]; exact (Below.refl _ _).alloc (Nat.le_refl _) _
    have hWs : W.heap.size = w.heap.size + 1 := by rw [hW]; simp
    have HCa : Hid (∀ w', Below W.heap.size W w' → Calls Tryd.prog 37 #[.agg (lcC a.kd a.nm za)] w' fun e w'' => e = .returned (.string ⟨a.txt.toArray⟩) ∧ Below w'.heap.size w' w'') := fun w' h => ldText_any a hok.1 (by omega) za P w' ((ha.below hBW).below h)
    have HCb : Hid (∀ w', Below W.heap.size W w' → Calls Tryd.prog 37 #[.agg (lcC b.kd b.nm zb)] w' fun e w'' => e = .returned (.string ⟨b.txt.toArray⟩) ∧ Below w'.heap.size w' w'') := fun w' h => ldText_any b hok.2 (by omega) zb P w' ((hb.below hBW).below h)
    obtain ⟨xa, hxa⟩ : ∃ xa : ByteArray, xa = ⟨a.txt.toArray⟩ := ⟨_, rfl⟩
    obtain ⟨xb, hxb⟩ : ∃ xb : ByteArray, xb = ⟨b.txt.toArray⟩ := ⟨_, rfl⟩
    have hxas : xa.size = a.txt.length := by rw [hxa]; simp [ByteArray.size]
    have hxbs : xb.size = b.txt.length := by rw [hxb]; simp [ByteArray.size]
    have hza : (⟨#[40]⟩ : ByteArray).size + xa.size ≤ 9223372036854775807 := by show 1 + _ ≤ _; omega
    have hzb : ((⟨#[40]⟩ : ByteArray) ++ xa).size + (⟨#[32]⟩ : ByteArray).size ≤ 9223372036854775807 := by rw [ByteArray.size_append]; show 1 + _ + 1 ≤ _; omega
    have hzc : ((⟨#[40]⟩ : ByteArray) ++ xa ++ (⟨#[32]⟩ : ByteArray)).size + xb.size ≤ 9223372036854775807 := by rw [ByteArray.size_append, ByteArray.size_append]; show 1 + _ + 1 + _ ≤ _; omega
    have hzd : ((⟨#[40]⟩ : ByteArray) ++ xa ++ (⟨#[32]⟩ : ByteArray) ++ xb).size + (⟨#[41]⟩ : ByteArray).size ≤ 9223372036854775807 := by rw [ByteArray.size_append, ByteArray.size_append, ByteArray.size_append]; show 1 + _ + 1 + _ + 1 ≤ _; omega
    have HN : Hid ((⟨(Lm.app a b).txt.toArray⟩ : ByteArray) = (⟨#[40]⟩ : ByteArray) ++ xa ++ (⟨#[32]⟩ : ByteArray) ++ xb ++ (⟨#[41]⟩ : ByteArray)) := by unfold Hid; rw [hxa, hxb]; apply ByteArray.ext; apply Array.ext'; simp [Lm.txt]
    have hsum : xa.size + xb.size ≤ 10000000 := by omega
    rw [← hxa] at HCa
    rw [← hxb] at HCb
    have hgW : g < W.heap.size := by have := hg.1; omega
    have hH : w.heap.size < W.heap.size := by omega
    have t2 : W.cell? ⟨w.heap.size, 2, none⟩ = some (.slice (some ⟨g, 0, none⟩) 2 cz) := by rw [hW, cell_of_row _ _ _ _ _ _ (RowAt.new w 70 _)]; rfl
    have hgl := hg.1
    have a0 := (hBW.cell (p := ⟨g, 0, none⟩) hgl).trans a0
    have a1 := (hBW.cell (p := ⟨g, 1, none⟩) hgl).trans a1
    have a2 := (hBW.cell (p := ⟨g, 2, none⟩) hgl).trans a2
    have b0 := (hBW.cell (p := ⟨g, 3, none⟩) hgl).trans b0
    have b1 := (hBW.cell (p := ⟨g, 4, none⟩) hgl).trans b1
    have b2 := (hBW.cell (p := ⟨g, 5, none⟩) hgl).trans b2
    have HB := hideT' hBW
    obtain ⟨oa, ca, hzz⟩ := ha.form
    subst hzz
    obtain ⟨ob, cb, hzz⟩ := hb.form
    subst hzz
    show Calls Tryd.prog 37 #[.agg #[.int .i64 2, .int .i64 0, .slice (some ⟨g, 0, none⟩) 2 cz]] w _
    clear hok hlen hBW ha hb hg hxa hxb hal hxas hxbs hWs
    go_enter Tryd.func37, Tryd.ntmps37
    go_wp2_with fail
    rw [← hW]
    have hS : Below W.heap.size W W.drew := (Below.refl _ _).drew
    refine held_begin (fun w' => Below W.heap.size W w') (by kernel_rfl) ?_
    refine held_valS 0 (some 17) rfl rfl (by kernel_rfl) (by kernel_rfl) (by kernel_rfl) noPanic_put rfl (.pointer (some ⟨w.heap.size, 2, none⟩)) (fun _ _ => by go_simp) hS ?_
    simp only [Act.put, List.setIfInBounds_toArray, List.set_cons_zero, List.set_cons_succ]
    refine held_valS 1 (some 18) rfl rfl (by kernel_rfl) (by kernel_rfl) (by kernel_rfl) noPanic_put rfl (.slice (some ⟨g, 0, none⟩) 2 cz) (fun w' h => by have q := ((h.cell (p := ⟨w.heap.size, 2, none⟩) hH).trans t2); go_simp) hS ?_
    simp only [Act.put, List.setIfInBounds_toArray, List.set_cons_zero, List.set_cons_succ]
    refine held_valS 2 (some 19) rfl rfl (by kernel_rfl) (by kernel_rfl) (by kernel_rfl) noPanic_put rfl (.pointer (some ⟨g, 0, none⟩)) (fun _ _ => by go_simp) hS ?_
    simp only [Act.put, List.setIfInBounds_toArray, List.set_cons_zero, List.set_cons_succ]
    refine held_valS 3 (some 20) rfl rfl (by kernel_rfl) (by kernel_rfl) (by kernel_rfl) noPanic_put rfl (.agg (lcC a.kd a.nm (.slice oa a.kids.length ca))) (fun w' h => by unfold lcC; have q0 := ((h.cell (p := ⟨g, 0, none⟩) hgW).trans a0); have q1 := ((h.cell (p := ⟨g, 1, none⟩) hgW).trans a1); have q2 := ((h.cell (p := ⟨g, 2, none⟩) hgW).trans a2); go_simp) hS ?_
    simp only [Act.put, List.setIfInBounds_toArray, List.set_cons_zero, List.set_cons_succ]
    refine held_valS 7 (some 24) rfl rfl (by kernel_rfl) (by kernel_rfl) (by kernel_rfl) noPanic_put rfl (.pointer (some ⟨w.heap.size, 2, none⟩)) (fun _ _ => by go_simp) hS ?_
    simp only [Act.put, List.setIfInBounds_toArray, List.set_cons_zero, List.set_cons_succ]
    refine held_valS 8 (some 25) rfl rfl (by kernel_rfl) (by kernel_rfl) (by kernel_rfl) noPanic_put rfl (.slice (some ⟨g, 0, none⟩) 2 cz) (fun w' h => by have q := ((h.cell (p := ⟨w.heap.size, 2, none⟩) hH).trans t2); go_simp) hS ?_
    simp only [Act.put, List.setIfInBounds_toArray, List.set_cons_zero, List.set_cons_succ]
    refine held_valS 9 (some 26) rfl rfl (by kernel_rfl) (by kernel_rfl) (by kernel_rfl) noPanic_put rfl (.pointer (some ⟨g, 3, none⟩)) (fun _ _ => by go_simp) hS ?_
    simp only [Act.put, List.setIfInBounds_toArray, List.set_cons_zero, List.set_cons_succ]
    refine held_valS 10 (some 27) rfl rfl (by kernel_rfl) (by kernel_rfl) (by kernel_rfl) noPanic_put rfl (.agg (lcC b.kd b.nm (.slice ob b.kids.length cb))) (fun w' h => by unfold lcC; have q0 := ((h.cell (p := ⟨g, 3, none⟩) hgW).trans b0); have q1 := ((h.cell (p := ⟨g, 4, none⟩) hgW).trans b1); have q2 := ((h.cell (p := ⟨g, 5, none⟩) hgW).trans b2); go_simp) hS ?_
    simp only [Act.put, List.setIfInBounds_toArray, List.set_cons_zero, List.set_cons_succ]
    refine held_call 4 (some 21) (by kernel_rfl) rfl rfl rfl 37 #[.agg (lcC a.kd a.nm (.slice oa a.kids.length ca))] (by go_simp) _ (HCa.out W.drew hS) ?_
    rintro e w5 ⟨rfl, hB5⟩
    have hS5 : Below W.heap.size W w5 := hS.trans (hB5.mono (Nat.le_refl _))
    refine ⟨_, rfl, hS5, ?_⟩
    simp only [Act.put, List.setIfInBounds_toArray, List.set_cons_zero, List.set_cons_succ]
    refine held_val 5 (some 22) rfl rfl (by kernel_rfl) (by kernel_rfl) (by kernel_rfl) noPanic_put rfl (.string ((⟨#[40]⟩ : ByteArray) ++ xa)) (fun _ => by go_simp; omega) hS5 ?_
    simp only [Act.put, List.setIfInBounds_toArray, List.set_cons_zero, List.set_cons_succ]
    refine held_val 6 (some 23) rfl rfl (by kernel_rfl) (by kernel_rfl) (by kernel_rfl) noPanic_put rfl (.string ((⟨#[40]⟩ : ByteArray) ++ xa ++ (⟨#[32]⟩ : ByteArray))) (fun _ => by go_simp; omega) hS5 ?_
    simp only [Act.put, List.setIfInBounds_toArray, List.set_cons_zero, List.set_cons_succ]
    refine held_call 11 (some 28) (by kernel_rfl) rfl rfl rfl 37 #[.agg (lcC b.kd b.nm (.slice ob b.kids.length cb))] (by go_simp) _ (HCb.out w5 hS5) ?_
    rintro e w6 ⟨rfl, hB6⟩
    have hS6 : Below W.heap.size W w6 := hS5.trans (hB6.mono hS5.size)
    refine ⟨_, rfl, hS6, ?_⟩
    simp only [Act.put, List.setIfInBounds_toArray, List.set_cons_zero, List.set_cons_succ]
    refine held_val 12 (some 29) rfl rfl (by kernel_rfl) (by kernel_rfl) (by kernel_rfl) noPanic_put rfl (.string ((⟨#[40]⟩ : ByteArray) ++ xa ++ (⟨#[32]⟩ : ByteArray) ++ xb)) (fun _ => by go_simp; omega) hS6 ?_
    simp only [Act.put, List.setIfInBounds_toArray, List.set_cons_zero, List.set_cons_succ]
    refine held_val 13 (some 30) rfl rfl (by kernel_rfl) (by kernel_rfl) (by kernel_rfl) noPanic_put rfl (.string ((⟨#[40]⟩ : ByteArray) ++ xa ++ (⟨#[32]⟩ : ByteArray) ++ xb ++ (⟨#[41]⟩ : ByteArray))) (fun _ => by go_simp; omega) hS6 ?_
    simp only [Act.put, List.setIfInBounds_toArray, List.set_cons_zero, List.set_cons_succ]
    refine held_assign 14 (some 2) (by kernel_rfl) rfl rfl _ rfl rfl (.string ((⟨#[40]⟩ : ByteArray) ++ xa ++ (⟨#[32]⟩ : ByteArray) ++ xb ++ (⟨#[41]⟩ : ByteArray))) rfl hS6 ?_
    simp only [Act.put, List.setIfInBounds_toArray, List.set_cons_zero, List.set_cons_succ]
    refine wpAnyH_done (by kernel_rfl) ?_ _
    refine NoPanic.normal ?_
    have HF : Hid (Below w.heap.size w w6) := HB.out.trans (hS6.mono HB.out.size)
    clear hS hS5 hS6 hB5 hB6 hW
    go_wp2
    go_ret
    exact ⟨by rw [HN.out]; rfl, HF.out⟩
end Go.Proofs.YtgolfbjfopoeeaaDoor.CB

/-
  Held regions that append a byte: helpers.
-/
namespace Go.Proofs.YtgolfbjfopoeeaaDoor
open Go.RowKit BL
set_option linter.unusedVariables false

theorem own_formU {w : World} {B n s : Nat} {T : TypeId} {v : Value} {xs : List Value} (h : w.ownsRow B T s v n xs) : ∃ o cap, v = .slice o n cap := by
  rcases h.2 with ⟨rfl, h0⟩ | ⟨g, cap, cur, rfl, _⟩
  · exact ⟨none, 0, by rw [h0]⟩
  · exact ⟨_, cap, rfl⟩
theorem bytes_snocU (t : List UInt8) (c : UInt8) : Lib.byteCells t ++ [.int .u8 c.toNat] = Lib.byteCells (t ++ [c]) := by
  rw [Lib.byteCells_append]; rfl
/-- The one operation that may come up. -/
theorem held_stepT {ops : Array Oper} {Q : Exit → Act → World → Prop} {md : Region.Mode} {S : World → Prop} {o : Oper} {fuel : Nat} {listed : Array Bool} {a : Act} {w : World} (i : Nat) (hr : Region.ready md ops listed = [i]) (hi : ops[i]? = some o) (hw : Region.wanted o (yielded ops a.tmps) = true)
    (h : ∀ K : Act → World → Prop, Hid (∀ a w', S w' → wpAnyH Tryd.prog md ops Q S fuel (listed.setIfInBounds i true) a w' → K a w') → o.wp Tryd.prog a w K Q) : wpAnyH Tryd.prog md ops Q S (fuel + 1) listed a w := by
  refine wpAnyH_ready hr (by simp) (AllReadyH.cons hi (fun K hK => ?_) AllReadyH.nil)
  rw [if_pos hw]
  exact h K (fun a w' hS h => hK.out _ _ hS (fun _ => h))
end Go.Proofs.YtgolfbjfopoeeaaDoor

/-
  What appendComb of the program adds to a row of bytes: the text of a combinator.
-/
namespace Go.Proofs.YtgolfbjfopoeeaaDoor.CB
open Go.RowKit BL
set_option linter.unusedVariables false

/-- What is added. -/
def AppT (B : Nat) (w : World) (u : List UInt8) (e : Ending) (w' : World) : Prop := ∃ v', e = .returned v' ∧ w'.ownsRow B 5 1 v' u.length (Lib.byteCells u)

set_option maxHeartbeats 8000000 in
set_option maxRecDepth 100000 in
theorem appendComb_any : ∀ (t : Lm) (b B : Nat) (v : Value) (u : List UInt8) (w : World), TrIn w (fun x => x < B) t b → B ≤ w.heap.size → w.ownsRow B 5 1 v u.length (Lib.byteCells u) → t.ok = true → u.length + 4 * t.sz ≤ 100000 → TabH B w →
    Calls Tryd.prog 41 #[v, .pointer (some ⟨b, 0, none⟩)] w fun e w' => AppT B w (u ++ t.txt) e w' ∧ Below B w w'
  | .var (.v n), b, B, v, u, w, hTr, hBw, hown, hok, hl, hT => by
    obtain ⟨i0, hi0, hz0, hz1, hz2⟩ := info_parts infoH_u8
    obtain ⟨ov, cv, hv⟩ := own_formU hown
    subst hv
    have HOW := hideT' hown
    have HT := hideT' hT
    have HB0 : Hid (Below B w w) := Below.refl _ _
    obtain ⟨hb, uu, o, c, hR⟩ := hTr
    simp only [Lm.ok, Leaf.ok, Bool.and_eq_true, decide_eq_true_eq] at hok
    obtain ⟨n0, n9⟩ := hok
    have c0 : w.cell? ⟨b, 0, none⟩ = some (.int .i64 1) := by rw [cell_of_row _ _ _ _ _ _ hR]; rfl
    have c1 : w.cell? ⟨b, 1, none⟩ = some (.int .i64 n) := by rw [cell_of_row _ _ _ _ _ _ hR]; rfl
    have HL : Hid (u.length ≤ 99996) := by simp only [Lm.sz] at hl; unfold Hid; omega
    clear hown hT hR hl
    go_enter Tryd.func41, Tryd.ntmps41
    go_wp2_with fail
    have hS : Below B w w.drew := HB0.out.drew
    refine held_begin (fun w' => Below B w w') (by kernel_rfl) ?_
    refine held_valS 0 (some 12) rfl rfl (by kernel_rfl) (by kernel_rfl) (by kernel_rfl) noPanic_put rfl (.slice ov u.length cv) (fun _ _ => by go_simp) hS ?_
    simp only [Act.put, List.setIfInBounds_toArray, List.set_cons_zero, List.set_cons_succ]
    refine held_valS 3 (some 15) rfl rfl (by kernel_rfl) (by kernel_rfl) (by kernel_rfl) noPanic_put rfl (.pointer (some ⟨b, 0, none⟩)) (fun _ _ => by go_simp) hS ?_
    simp only [Act.put, List.setIfInBounds_toArray, List.set_cons_zero, List.set_cons_succ]
    refine held_valS 4 (some 16) rfl rfl (by kernel_rfl) (by kernel_rfl) (by kernel_rfl) noPanic_put rfl (.pointer (some ⟨b, 0, none⟩)) (fun _ _ => by go_simp) hS ?_
    simp only [Act.put, List.setIfInBounds_toArray, List.set_cons_zero, List.set_cons_succ]
    refine held_valS 5 (some 17) rfl rfl (by kernel_rfl) (by kernel_rfl) (by kernel_rfl) noPanic_put rfl (.pointer (some ⟨b, 0, none⟩)) (fun _ _ => by go_simp) hS ?_
    simp only [Act.put, List.setIfInBounds_toArray, List.set_cons_zero, List.set_cons_succ]
    refine held_valS 6 (some 18) rfl rfl (by kernel_rfl) (by kernel_rfl) (by kernel_rfl) noPanic_put rfl (.pointer (some ⟨b, 1, none⟩)) (fun _ _ => by go_simp) hS ?_
    simp only [Act.put, List.setIfInBounds_toArray, List.set_cons_zero, List.set_cons_succ]
    refine held_valS 7 (some 19) rfl rfl (by kernel_rfl) (by kernel_rfl) (by kernel_rfl) noPanic_put rfl (.int .i64 n) (fun w' h => by have c := (h.cell (p := ⟨b, 1, none⟩) hb).trans c1; go_simp) hS ?_
    simp only [Act.put, List.setIfInBounds_toArray, List.set_cons_zero, List.set_cons_succ]
    refine held_ready 1 (some 13) (by kernel_rfl) rfl rfl rfl (.slice (some ⟨w.heap.size, 0, none⟩) 1 1) (w.drew.alloc (.cells #[.int .u8 120] 5)) (by go_simp) (hS.alloc (by have := HB0.out.size; show B ≤ w.heap.size; omega) _) ?_
    simp only [Act.put, List.setIfInBounds_toArray, List.set_cons_zero, List.set_cons_succ]
    refine held_stepT 2 (by kernel_rfl) rfl rfl fun K3 hK3 => ?_
    have hO0 : w.drew.ownsRow B 5 1 (.slice ov u.length cv) u.length (Lib.byteCells u) := HOW.out
    refine append_own3_wp _ _ _ 57 rfl B 5 i0 (.int .u8 0) 1 1 Tryd.underlying57 hi0 hz0 hz1 hz2 rfl (by decide) (.slice ov u.length cv) u.length _ rfl (hO0.alloc _) ⟨w.heap.size, 0, none⟩ 1 1 [.int .u8 120] rfl rfl (cell_one_new w.drew _ _) (byteH_one _) (by decide) (by have := HL.out; unfold maxLen; omega) (by have := HL.out; omega) (by rw [World.size_alloc]; have := HB0.out.size; show B ≤ w.heap.size + 1; omega) ?_
    intro v3 w3 hown3 hg3 _
    obtain ⟨ov3, cv3, hv3⟩ := own_formU hown3
    subst hv3
    have hB3 : Below B w w3 := ((hS.alloc (by have := HB0.out.size; show B ≤ w.heap.size; omega) _)).grown hg3 (by rw [World.size_alloc]; have := HB0.out.size; show B ≤ w.heap.size + 1; omega) (fun k e => (HOW.out.lt k e).1)
    have hs3 := hB3.size
    refine hK3.out _ _ hB3 ?_
    show wpAnyH Tryd.prog _ _ _ _ _ _ (Act.put _ (some 14) (.slice ov3 (u.length + 1) cv3)) w3
    simp only [Act.put, List.setIfInBounds_toArray, List.set_cons_zero, List.set_cons_succ]
    have hown3' : w3.ownsRow B 5 1 (.slice ov3 (u ++ [120]).length cv3) (u ++ [120]).length (Lib.byteCells (u ++ [120])) := by rw [List.length_append, List.length_singleton, ← bytes_snocU]; exact hown3
    have hca := Tryd.strconv_AppendInt_10 B (u ++ [120]).length n (by omega) (by omega) _ _ w3 hown3' (by omega) (by have := HL.out; rw [List.length_append, List.length_singleton]; omega) (HT.out.on hB3)
    rw [List.length_append, List.length_singleton] at hca
    refine held_call 8 (some 20) (by kernel_rfl) rfl rfl rfl 51 #[.slice ov3 (u.length + 1) cv3, .int .i64 n, .int .i64 10] (by go_simp) _ hca ?_
    rintro e w4 ⟨v4, rfl, hown4, hB4, _⟩
    obtain ⟨ov4, cv4, hv4⟩ := own_formU hown4
    subst hv4
    have hB4' := hB3.trans hB4
    refine ⟨_, rfl, hB4', ?_⟩
    simp only [Act.put]
    refine held_assign 9 (some 4) (by kernel_rfl) rfl rfl _ rfl rfl (.slice ov4 (u.length + 1 + (Lib.itoa n).length) cv4) rfl hB4' ?_
    simp only [Act.put]
    refine wpAnyH_done (by kernel_rfl) ?_ _
    refine NoPanic.normal ?_
    obtain ⟨u5, hu5⟩ : ∃ u5, u5 = u ++ 120 :: Lib.itoa n := ⟨_, rfl⟩
    have hl5 : u.length + 1 + (Lib.itoa n).length = u5.length := by rw [hu5]; simp only [List.length_append, List.length_cons]; omega
    have hbc : Lib.byteCells (u ++ [120]) ++ Lib.byteCells (Lib.itoa n) = Lib.byteCells u5 := by rw [← Lib.byteCells_append, hu5]; simp
    rw [hl5, hbc] at hown4
    rw [hl5]
    have HE : Hid (u5 = u ++ (Lm.var (.v n)).txt) := by unfold Hid; rw [hu5]; rfl
    have HF := hideT' (And.intro hown4 hB4')
    clear hown4 hB4 hB4' hown3 hown3' hg3 hB3 hS hO0 hK3 hca hu5 hl5 hbc
    go_wp2
    go_ret
    rw [← HE.out]
    exact ⟨⟨_, rfl, HF.out.1⟩, HF.out.2⟩
  | .var .s, b, B, v, u, w, hTr, hBw, hown, hok, hl, hT => by
    obtain ⟨i0, hi0, hz0, hz1, hz2⟩ := info_parts infoH_u8
    obtain ⟨ov, cv, hv⟩ := own_formU hown
    subst hv
    have HOW := hideT' hown
    have HT := hideT' hT
    have HB0 : Hid (Below B w w) := Below.refl _ _
    obtain ⟨hb, uu, o, c, hR⟩ := hTr
    have c0 : w.cell? ⟨b, 0, none⟩ = some (.int .i64 3) := by rw [cell_of_row _ _ _ _ _ _ hR]; rfl
    have HL : Hid (u.length ≤ 99996) := by simp only [Lm.sz] at hl; unfold Hid; omega
    clear hown hT hR hl hok
    go_enter Tryd.func41, Tryd.ntmps41
    go_wp2_with (at_builtin; refine wpList_append_own _ rfl _ _ 57 rfl B 5 i0 (.int .u8 0) 1 1 Tryd.underlying57 hi0 hz0 hz1 hz2 rfl (by decide) _ _ _ rfl (HOW.out.alloc _) ⟨w.heap.size, 0, none⟩ 1 1 [.int .u8 83] rfl rfl (cell_one_new _ _ _) (byteH_one _) (by have := HL.out; unfold maxLen; omega) (by have := HL.out; omega) (by simp; have := HB0.out.size; omega) ?_; intro v9 w9 hown9 hg9 _; obtain ⟨ov9, cv9, hv9⟩ := own_formU hown9; subst hv9)
    go_ret
    have hb9 : Below B w w9 := ((HB0.out).alloc (by have := HB0.out.size; omega) _).grown hg9 (by rw [World.size_alloc]; have := HB0.out.size; omega) (fun k e => (HOW.out.lt k e).1)
    have ho9 : w9.ownsRow B 5 1 (.slice ov9 (u.length + 1) cv9) (u ++ [83]).length (Lib.byteCells (u ++ [83])) := by rw [List.length_append, List.length_singleton, ← bytes_snocU]; exact hown9
    exact ⟨⟨_, rfl, ho9⟩, hb9⟩
  | .var .k, b, B, v, u, w, hTr, hBw, hown, hok, hl, hT => by
    obtain ⟨i0, hi0, hz0, hz1, hz2⟩ := info_parts infoH_u8
    obtain ⟨ov, cv, hv⟩ := own_formU hown
    subst hv
    have HOW := hideT' hown
    have HT := hideT' hT
    have HB0 : Hid (Below B w w) := Below.refl _ _
    obtain ⟨hb, uu, o, c, hR⟩ := hTr
    have c0 : w.cell? ⟨b, 0, none⟩ = some (.int .i64 4) := by rw [cell_of_row _ _ _ _ _ _ hR]; rfl
    have HL : Hid (u.length ≤ 99996) := by simp only [Lm.sz] at hl; unfold Hid; omega
    clear hown hT hR hl hok
    go_enter Tryd.func41, Tryd.ntmps41
    go_wp2_with (at_builtin; refine wpList_append_own _ rfl _ _ 57 rfl B 5 i0 (.int .u8 0) 1 1 Tryd.underlying57 hi0 hz0 hz1 hz2 rfl (by decide) _ _ _ rfl (HOW.out.alloc _) ⟨w.heap.size, 0, none⟩ 1 1 [.int .u8 75] rfl rfl (cell_one_new _ _ _) (byteH_one _) (by have := HL.out; unfold maxLen; omega) (by have := HL.out; omega) (by simp; have := HB0.out.size; omega) ?_; intro v9 w9 hown9 hg9 _; obtain ⟨ov9, cv9, hv9⟩ := own_formU hown9; subst hv9)
    go_ret
    have hb9 : Below B w w9 := ((HB0.out).alloc (by have := HB0.out.size; omega) _).grown hg9 (by rw [World.size_alloc]; have := HB0.out.size; omega) (fun k e => (HOW.out.lt k e).1)
    have ho9 : w9.ownsRow B 5 1 (.slice ov9 (u.length + 1) cv9) (u ++ [75]).length (Lib.byteCells (u ++ [75])) := by rw [List.length_append, List.length_singleton, ← bytes_snocU]; exact hown9
    exact ⟨⟨_, rfl, ho9⟩, hb9⟩
  | .var .i, b, B, v, u, w, hTr, hBw, hown, hok, hl, hT => by
    obtain ⟨i0, hi0, hz0, hz1, hz2⟩ := info_parts infoH_u8
    obtain ⟨ov, cv, hv⟩ := own_formU hown
    subst hv
    have HOW := hideT' hown
    have HT := hideT' hT
    have HB0 : Hid (Below B w w) := Below.refl _ _
    obtain ⟨hb, uu, o, c, hR⟩ := hTr
    have c0 : w.cell? ⟨b, 0, none⟩ = some (.int .i64 5) := by rw [cell_of_row _ _ _ _ _ _ hR]; rfl
    have HL : Hid (u.length ≤ 99996) := by simp only [Lm.sz] at hl; unfold Hid; omega
    clear hown hT hR hl hok
    go_enter Tryd.func41, Tryd.ntmps41
    go_wp2_with (at_builtin; refine wpList_append_own _ rfl _ _ 57 rfl B 5 i0 (.int .u8 0) 1 1 Tryd.underlying57 hi0 hz0 hz1 hz2 rfl (by decide) _ _ _ rfl (HOW.out.alloc _) ⟨w.heap.size, 0, none⟩ 1 1 [.int .u8 73] rfl rfl (cell_one_new _ _ _) (byteH_one _) (by have := HL.out; unfold maxLen; omega) (by have := HL.out; omega) (by simp; have := HB0.out.size; omega) ?_; intro v9 w9 hown9 hg9 _; obtain ⟨ov9, cv9, hv9⟩ := own_formU hown9; subst hv9)
    go_ret
    have hb9 : Below B w w9 := ((HB0.out).alloc (by have := HB0.out.size; omega) _).grown hg9 (by rw [World.size_alloc]; have := HB0.out.size; omega) (fun k e => (HOW.out.lt k e).1)
    have ho9 : w9.ownsRow B 5 1 (.slice ov9 (u.length + 1) cv9) (u ++ [73]).length (Lib.byteCells (u ++ [73])) := by rw [List.length_append, List.length_singleton, ← bytes_snocU]; exact hown9
    exact ⟨⟨_, rfl, ho9⟩, hb9⟩
  | .app s t, b, B, v, u, w, hTr, hBw, hown, hok, hl, hT => by
    obtain ⟨i0, hi0, hz0, hz1, hz2⟩ := info_parts infoH_u8
    obtain ⟨ov, cv, hv⟩ := own_formU hown
    subst hv
    have HOW := hideT' hown
    have HT := hideT' hT
    have HB0 : Hid (Below B w w) := Below.refl _ _
    obtain ⟨hb, uu, g, c, b1, b2, hR, hg, d0, d1, h1, h2⟩ := hTr
    have hgB := hg.2
    have c0 : w.cell? ⟨b, 0, none⟩ = some (.int .i64 2) := by rw [cell_of_row _ _ _ _ _ _ hR]; rfl
    have c3 : w.cell? ⟨b, 3, none⟩ = some (.slice (some ⟨g, 0, none⟩) 2 c) := by rw [cell_of_row _ _ _ _ _ _ hR]; rfl
    simp only [Lm.ok, Bool.and_eq_true] at hok
    have hsl := Lm.txt_len hok.1
    have htl := Lm.txt_len hok.2
    have HL : Hid (u.length + 4 * s.sz + 4 * t.sz + 4 ≤ 100000 ∧ s.txt.length ≤ 4 * s.sz ∧ t.txt.length ≤ 4 * t.sz) := by simp only [Lm.sz] at hl; unfold Hid; omega
    have HKs := hideT' h1
    have HKt := hideT' h2
    have HOKs : Hid (s.ok = true) := hok.1
    have HOKt : Hid (t.ok = true) := hok.2
    clear hown hT hR hl hok h1 h2 hg hsl htl
    go_enter Tryd.func41, Tryd.ntmps41
    go_wp2_with fail
    have hS : Below B w w.drew := HB0.out.drew
    refine held_begin (fun w' => Below B w w') (by kernel_rfl) ?_
    refine held_valS 0 (some 36) rfl rfl (by kernel_rfl) (by kernel_rfl) (by kernel_rfl) noPanic_put rfl (.slice ov u.length cv) (fun _ _ => by go_simp) hS ?_
    simp only [Act.put, List.setIfInBounds_toArray, List.set_cons_zero, List.set_cons_succ]
    refine held_valS 3 (some 39) rfl rfl (by kernel_rfl) (by kernel_rfl) (by kernel_rfl) noPanic_put rfl (.pointer (some ⟨b, 0, none⟩)) (fun _ _ => by go_simp) hS ?_
    simp only [Act.put, List.setIfInBounds_toArray, List.set_cons_zero, List.set_cons_succ]
    refine held_valS 4 (some 40) rfl rfl (by kernel_rfl) (by kernel_rfl) (by kernel_rfl) noPanic_put rfl (.pointer (some ⟨b, 0, none⟩)) (fun _ _ => by go_simp) hS ?_
    simp only [Act.put, List.setIfInBounds_toArray, List.set_cons_zero, List.set_cons_succ]
    refine held_valS 5 (some 41) rfl rfl (by kernel_rfl) (by kernel_rfl) (by kernel_rfl) noPanic_put rfl (.pointer (some ⟨b, 3, none⟩)) (fun _ _ => by go_simp) hS ?_
    simp only [Act.put, List.setIfInBounds_toArray, List.set_cons_zero, List.set_cons_succ]
    refine held_valS 6 (some 42) rfl rfl (by kernel_rfl) (by kernel_rfl) (by kernel_rfl) noPanic_put rfl (.slice (some ⟨g, 0, none⟩) 2 c) (fun w' h => by have c := (h.cell (p := ⟨b, 3, none⟩) hb).trans c3; go_simp) hS ?_
    simp only [Act.put, List.setIfInBounds_toArray, List.set_cons_zero, List.set_cons_succ]
    refine held_valS 7 (some 43) rfl rfl (by kernel_rfl) (by kernel_rfl) (by kernel_rfl) noPanic_put rfl (.pointer (some ⟨g, 0, none⟩)) (fun _ _ => by go_simp) hS ?_
    simp only [Act.put, List.setIfInBounds_toArray, List.set_cons_zero, List.set_cons_succ]
    refine held_valS 8 (some 44) rfl rfl (by kernel_rfl) (by kernel_rfl) (by kernel_rfl) noPanic_put rfl (.pointer (some ⟨b1, 0, none⟩)) (fun w' h => by have c := (h.cell (p := ⟨g, 0, none⟩) hgB).trans d0; go_simp) hS ?_
    simp only [Act.put, List.setIfInBounds_toArray, List.set_cons_zero, List.set_cons_succ]
    refine held_ready 1 (some 37) (by kernel_rfl) rfl rfl rfl (.slice (some ⟨w.heap.size, 0, none⟩) 1 1) (w.drew.alloc (.cells #[.int .u8 40] 5)) (by go_simp) (hS.alloc (by have := HB0.out.size; show B ≤ w.heap.size; omega) _) ?_
    simp only [Act.put, List.setIfInBounds_toArray, List.set_cons_zero, List.set_cons_succ]
    refine held_stepT 2 (by kernel_rfl) rfl rfl fun K3 hK3 => ?_
    have hO0 : w.drew.ownsRow B 5 1 (.slice ov u.length cv) u.length (Lib.byteCells u) := HOW.out
    refine append_own3_wp _ _ _ 57 rfl B 5 i0 (.int .u8 0) 1 1 Tryd.underlying57 hi0 hz0 hz1 hz2 rfl (by decide) (.slice ov u.length cv) u.length _ rfl (hO0.alloc _) ⟨w.heap.size, 0, none⟩ 1 1 [.int .u8 40] rfl rfl (cell_one_new w.drew _ _) (byteH_one _) (by decide) (by have := HL.out; unfold maxLen; omega) (by have := HL.out; omega) (by rw [World.size_alloc]; have := HB0.out.size; show B ≤ w.heap.size + 1; omega) ?_
    intro v3 w3 hown3 hg3 _
    obtain ⟨ov3, cv3, hv3⟩ := own_formU hown3
    subst hv3
    have hB3 : Below B w w3 := ((hS.alloc (by have := HB0.out.size; show B ≤ w.heap.size; omega) _)).grown hg3 (by rw [World.size_alloc]; have := HB0.out.size; show B ≤ w.heap.size + 1; omega) (fun k e => (HOW.out.lt k e).1)
    have hs3 := hB3.size
    refine hK3.out _ _ hB3 ?_
    show wpAnyH Tryd.prog _ _ _ _ _ _ (Act.put _ (some 38) (.slice ov3 (u.length + 1) cv3)) w3
    simp only [Act.put, List.setIfInBounds_toArray, List.set_cons_zero, List.set_cons_succ]
    have hown3' : w3.ownsRow B 5 1 (.slice ov3 (u ++ [40]).length cv3) (u ++ [40]).length (Lib.byteCells (u ++ [40])) := by rw [List.length_append, List.length_singleton, ← bytes_snocU]; exact hown3
    have hca := appendComb_any s b1 B (.slice ov3 (u ++ [40]).length cv3) (u ++ [40]) w3 (TrIn.keep hB3.size (fun x hx _ => hB3.block x hx) (fun _ h _ => h) HKs.out) (by omega) hown3' HOKs.out (by have := HL.out; rw [List.length_append, List.length_singleton]; omega) (HT.out.on hB3)
    rw [List.length_append, List.length_singleton] at hca
    refine held_call 9 (some 45) (by kernel_rfl) rfl rfl rfl 41 #[.slice ov3 (u.length + 1) cv3, .pointer (some ⟨b1, 0, none⟩)] (by go_simp) _ hca ?_
    rintro e w4 ⟨⟨v4, rfl, hown4⟩, hB4⟩
    obtain ⟨ov4, cv4, hv4⟩ := own_formU hown4
    subst hv4
    have hB4' := hB3.trans hB4
    refine ⟨_, rfl, hB4', ?_⟩
    simp only [Act.put]
    refine held_assign 10 (some 0) (by kernel_rfl) rfl rfl _ rfl rfl (.slice ov4 (u ++ [40] ++ Lm.txt s).length cv4) rfl hB4' ?_
    simp only [Act.put]
    refine wpAnyH_done (by kernel_rfl) ?_ _
    refine NoPanic.normal ?_
    obtain ⟨u5, hu5⟩ : ∃ u5, u5 = u ++ [40] ++ s.txt := ⟨_, rfl⟩
    rw [← hu5] at hown4
    rw [← hu5]
    have hl5 : u5.length = u.length + 1 + s.txt.length := by rw [hu5]; simp only [List.length_append, List.length_singleton]
    have HU5 := hideT' hu5
    have HL5 := hideT' hl5
    have HOW5 := hideT' hown4
    have HB5 := hideT' hB4'
    have HLL := HL
    clear hown4 hB4 hB4' hown3 hown3' hg3 hB3 hS hO0 hK3 hca hu5 hl5 hs3 HL HOW
    have HL : Hid (u5.length + 4 * t.sz + 3 ≤ 100000 ∧ t.txt.length ≤ 4 * t.sz) := by have := HLL.out; have := HL5.out; unfold Hid; omega
    obtain ⟨w5, hw5⟩ : ∃ w5, w5 = w4 := ⟨_, rfl⟩
    obtain ⟨ov5, hov5⟩ : ∃ x, x = ov4 := ⟨_, rfl⟩
    obtain ⟨cv5, hcv5⟩ : ∃ x, x = cv4 := ⟨_, rfl⟩
    rw [← hov5, ← hcv5, ← hw5] at HOW5
    rw [← hw5] at HB5
    rw [← hov5, ← hcv5, ← hw5]
    clear hw5 hov5 hcv5
    go_wp2_with fail
    have hS : Below B w w5.drew := HB5.out.drew
    refine held_begin (fun w' => Below B w w') (by kernel_rfl) ?_
    refine held_valS 0 (some 46) rfl rfl (by kernel_rfl) (by kernel_rfl) (by kernel_rfl) noPanic_put rfl (.slice ov5 u5.length cv5) (fun _ _ => by go_simp) hS ?_
    simp only [Act.put, List.setIfInBounds_toArray, List.set_cons_zero, List.set_cons_succ]
    refine held_valS 3 (some 49) rfl rfl (by kernel_rfl) (by kernel_rfl) (by kernel_rfl) noPanic_put rfl (.pointer (some ⟨b, 0, none⟩)) (fun _ _ => by go_simp) hS ?_
    simp only [Act.put, List.setIfInBounds_toArray, List.set_cons_zero, List.set_cons_succ]
    refine held_valS 4 (some 50) rfl rfl (by kernel_rfl) (by kernel_rfl) (by kernel_rfl) noPanic_put rfl (.pointer (some ⟨b, 0, none⟩)) (fun _ _ => by go_simp) hS ?_
    simp only [Act.put, List.setIfInBounds_toArray, List.set_cons_zero, List.set_cons_succ]
    refine held_valS 5 (some 51) rfl rfl (by kernel_rfl) (by kernel_rfl) (by kernel_rfl) noPanic_put rfl (.pointer (some ⟨b, 3, none⟩)) (fun _ _ => by go_simp) hS ?_
    simp only [Act.put, List.setIfInBounds_toArray, List.set_cons_zero, List.set_cons_succ]
    refine held_valS 6 (some 52) rfl rfl (by kernel_rfl) (by kernel_rfl) (by kernel_rfl) noPanic_put rfl (.slice (some ⟨g, 0, none⟩) 2 c) (fun w' h => by have c := (h.cell (p := ⟨b, 3, none⟩) hb).trans c3; go_simp) hS ?_
    simp only [Act.put, List.setIfInBounds_toArray, List.set_cons_zero, List.set_cons_succ]
    refine held_valS 7 (some 53) rfl rfl (by kernel_rfl) (by kernel_rfl) (by kernel_rfl) noPanic_put rfl (.pointer (some ⟨g, 1, none⟩)) (fun _ _ => by go_simp) hS ?_
    simp only [Act.put, List.setIfInBounds_toArray, List.set_cons_zero, List.set_cons_succ]
    refine held_valS 8 (some 54) rfl rfl (by kernel_rfl) (by kernel_rfl) (by kernel_rfl) noPanic_put rfl (.pointer (some ⟨b2, 0, none⟩)) (fun w' h => by have c := (h.cell (p := ⟨g, 1, none⟩) hgB).trans d1; go_simp) hS ?_
    simp only [Act.put, List.setIfInBounds_toArray, List.set_cons_zero, List.set_cons_succ]
    refine held_ready 1 (some 47) (by kernel_rfl) rfl rfl rfl (.slice (some ⟨w5.heap.size, 0, none⟩) 1 1) (w5.drew.alloc (.cells #[.int .u8 32] 5)) (by go_simp) (hS.alloc (by have := HB5.out.size; show B ≤ w5.heap.size; omega) _) ?_
    simp only [Act.put, List.setIfInBounds_toArray, List.set_cons_zero, List.set_cons_succ]
    refine held_stepT 2 (by kernel_rfl) rfl rfl fun K3 hK3 => ?_
    have hO0 : w5.drew.ownsRow B 5 1 (.slice ov5 u5.length cv5) u5.length (Lib.byteCells u5) := HOW5.out
    refine append_own3_wp _ _ _ 57 rfl B 5 i0 (.int .u8 0) 1 1 Tryd.underlying57 hi0 hz0 hz1 hz2 rfl (by decide) (.slice ov5 u5.length cv5) u5.length _ rfl (hO0.alloc _) ⟨w5.heap.size, 0, none⟩ 1 1 [.int .u8 32] rfl rfl (cell_one_new w5.drew _ _) (byteH_one _) (by decide) (by have := HL.out; unfold maxLen; omega) (by have := HL.out; omega) (by rw [World.size_alloc]; have := HB5.out.size; show B ≤ w5.heap.size + 1; omega) ?_
    intro v3 w3 hown3 hg3 _
    obtain ⟨ov3, cv3, hv3⟩ := own_formU hown3
    subst hv3
    have hB3 : Below B w w3 := ((hS.alloc (by have := HB5.out.size; show B ≤ w5.heap.size; omega) _)).grown hg3 (by rw [World.size_alloc]; have := HB5.out.size; show B ≤ w5.heap.size + 1; omega) (fun k e => (HOW5.out.lt k e).1)
    have hs3 := hB3.size
    refine hK3.out _ _ hB3 ?_
    show wpAnyH Tryd.prog _ _ _ _ _ _ (Act.put _ (some 48) (.slice ov3 (u5.length + 1) cv3)) w3
    simp only [Act.put, List.setIfInBounds_toArray, List.set_cons_zero, List.set_cons_succ]
    have hown3' : w3.ownsRow B 5 1 (.slice ov3 (u5 ++ [32]).length cv3) (u5 ++ [32]).length (Lib.byteCells (u5 ++ [32])) := by rw [List.length_append, List.length_singleton, ← bytes_snocU]; exact hown3
    have hca := appendComb_any t b2 B (.slice ov3 (u5 ++ [32]).length cv3) (u5 ++ [32]) w3 (TrIn.keep hB3.size (fun x hx _ => hB3.block x hx) (fun _ h _ => h) HKt.out) (by omega) hown3' HOKt.out (by have := HL.out; rw [List.length_append, List.length_singleton]; omega) (HT.out.on hB3)
    rw [List.length_append, List.length_singleton] at hca
    refine held_call 9 (some 55) (by kernel_rfl) rfl rfl rfl 41 #[.slice ov3 (u5.length + 1) cv3, .pointer (some ⟨b2, 0, none⟩)] (by go_simp) _ hca ?_
    rintro e w4 ⟨⟨v4, rfl, hown4⟩, hB4⟩
    obtain ⟨ov4, cv4, hv4⟩ := own_formU hown4
    subst hv4
    have hB4' := hB3.trans hB4
    refine ⟨_, rfl, hB4', ?_⟩
    simp only [Act.put]
    refine held_assign 10 (some 0) (by kernel_rfl) rfl rfl _ rfl rfl (.slice ov4 (u5 ++ [32] ++ Lm.txt t).length cv4) rfl hB4' ?_
    simp only [Act.put]
    refine wpAnyH_done (by kernel_rfl) ?_ _
    refine NoPanic.normal ?_
    obtain ⟨u6, hu6⟩ : ∃ u6, u6 = u5 ++ [32] ++ t.txt := ⟨_, rfl⟩
    rw [← hu6] at hown4
    rw [← hu6]
    have hl6 : u6.length = u5.length + 1 + t.txt.length := by rw [hu6]; simp only [List.length_append, List.length_singleton]
    have HE : Hid (u6 ++ [41] = u ++ 40 :: (s.txt ++ 32 :: (t.txt ++ [41]))) := by unfold Hid; rw [hu6, HU5.out]; simp
    have HL6 : Hid (u6.length ≤ 100000) := by have := HL.out; unfold Hid; omega
    have HOW6 := hideT' hown4
    have HB6 := hideT' hB4'
    clear hown4 hB4 hB4' hown3 hown3' hg3 hB3 hS hO0 hK3 hca hu6 hl6 hs3 HL
    go_wp2_with (at_builtin; refine wpList_append_own _ rfl _ _ 57 rfl B 5 i0 (.int .u8 0) 1 1 Tryd.underlying57 hi0 hz0 hz1 hz2 rfl (by decide) _ _ _ rfl (HOW6.out.alloc _) ⟨w4.heap.size, 0, none⟩ 1 1 [.int .u8 41] rfl rfl (cell_one_new _ _ _) (byteH_one _) (by have := HL6.out; unfold maxLen; omega) (by have := HL6.out; omega) (by simp; have := HB6.out.size; omega) ?_; intro v9 w9 hown9 hg9 _; obtain ⟨ov9, cv9, hv9⟩ := own_formU hown9; subst hv9)
    go_ret
    have hb9 : Below B w w9 := ((HB6.out).alloc (by have := HB6.out.size; omega) _).grown hg9 (by rw [World.size_alloc]; have := HB6.out.size; omega) (fun k e => (HOW6.out.lt k e).1)
    have ho9 : w9.ownsRow B 5 1 (.slice ov9 (u6.length + 1) cv9) (u6 ++ [41]).length (Lib.byteCells (u6 ++ [41])) := by rw [List.length_append, List.length_singleton, ← bytes_snocU]; exact hown9
    rw [HE.out] at ho9
    exact ⟨⟨_, rfl, ho9⟩, hb9⟩
end Go.Proofs.YtgolfbjfopoeeaaDoor.CB

/-
  What both CombText answer.
-/
namespace Go.Proofs.YtgolfbjfopoeeaaDoor.CB
open Go.RowKit
set_option linter.unusedVariables false

/-- The text told of nodes, and whether it is told. -/
def txtB (l : List Nd) : ByteArray := match readP' l with | none => ⟨#[]⟩ | some t => ⟨t.txt.toArray⟩
def txtO (l : List Nd) : Bool := (readP' l).isSome
theorem txt_none {l : List Nd} (h : readP' l = none) : txtB l = ⟨#[]⟩ ∧ txtO l = false := by unfold txtB txtO; rw [h]; exact ⟨rfl, rfl⟩
theorem txt_some {l : List Nd} {t : Lm} (h : readP' l = some t) : txtB l = ⟨t.txt.toArray⟩ ∧ txtO l = true := by unfold txtB txtO; rw [h]; exact ⟨rfl, rfl⟩

set_option maxHeartbeats 2000000 in
set_option maxRecDepth 100000 in
theorem specCombText_any (l : List Nd) (v : Value) (w : World) (hv : NdIn w v l) (hl : l.length ≤ 1048576) :
    Calls Tryd.prog 17 #[v] w fun e w' => e = .returned (.tuple #[.string (txtB l), .bool (txtO l)]) ∧ Below w.heap.size w w' := by
  have HV := hideT' hv
  have HG := hideT' (specGoodComb_any l v w hv hl)
  clear hv
  cases hr : readP' l with
  | none =>
    have HN := hideT' (txt_none hr)
    rw [goodS_none hr] at HG
    clear hr
    go_enter Tryd.func17, Tryd.ntmps17
    go_wp2_with fail
    refine HG.out.mono ?_
    rintro e w1 ⟨rfl, hB1⟩
    have HB1 := hideT' hB1
    clear hB1
    go_wp2
    go_ret2
    exact ⟨by rw [HN.out.1, HN.out.2]; rfl, HB1.out⟩
  | some t =>
    have HN := hideT' (txt_some hr)
    rw [goodS_some hr] at HG
    have HT := hideT' (readP'_facts hr)
    have HRR := hideT' hr
    clear hr
    go_enter Tryd.func17, Tryd.ntmps17
    go_wp2_with fail
    refine HG.out.mono ?_
    rintro e w1 ⟨rfl, hB1⟩
    have HB1 := hideT' hB1
    have HC := hideT' (lcTree_whole l t v w1 (HV.out.below hB1) HRR.out)
    clear hB1
    go_wp2_with fail
    refine HC.out.mono ?_
    rintro e w2 ⟨⟨z, rfl, hz⟩, hB2⟩
    have HB2 : Hid (Below w.heap.size w w2) := HB1.out.trans (hB2.mono HB1.out.size)
    have HC2 := hideT' (ldText_any t HT.out.2.2.2.1 (by have := Lm.txt_len HT.out.2.2.2.1; have := HT.out.2.1; omega) z _ w2 hz)
    obtain ⟨kd, hkd⟩ : ∃ kd, kd = t.kd := ⟨_, rfl⟩
    obtain ⟨nm, hnm⟩ : ∃ nm, nm = t.nm := ⟨_, rfl⟩
    rw [← hkd, ← hnm] at HC2
    rw [← hkd, ← hnm]
    clear hz hB2 hkd hnm
    go_wp2_with fail
    refine HC2.out.mono ?_
    rintro e w3 ⟨rfl, hB3⟩
    have HB3 : Hid (Below w.heap.size w w3) := HB2.out.trans (hB3.mono HB2.out.size)
    clear hB3
    go_wp2
    go_ret2
    exact ⟨by rw [HN.out.1, HN.out.2]; rfl, HB3.out⟩

theorem conv_nilT (w : World) : (convert 57 9 (.slice none 0 0)).run Tryd.prog w = .ok (.string ⟨#[]⟩) w := by
  simp [convert, run_underlying Tryd.underlying57, run_underlying Tryd.underlying9, run_underlying Tryd.underlying5, Conv.bytesToString]
  rfl
set_option maxHeartbeats 2000000 in
set_option maxRecDepth 100000 in
theorem implCombText_any (l : List Nd) (v : Value) (w : World) (hv : NdIn w v l) (hl : l.length ≤ 1048576) (hT : TabH w.heap.size w) :
    Calls Tryd.prog 19 #[v] w fun e w' => e = .returned (.tuple #[.string (txtB l), .bool (txtO l)]) ∧ Below w.heap.size w w' := by
  have HC := hideT' (readTree_any l v w hv hl)
  have HTB := hideT' hT
  clear hv hT
  go_enter Tryd.func19, Tryd.ntmps19
  go_wp2_with fail
  refine HC.out.mono ?_
  rintro e w1 ⟨hans, hB1⟩
  have HB1 := hideT' hB1
  clear hB1
  rcases hans with ⟨p, rfl, hn⟩ | ⟨t, b, rfl, hr, hTr⟩
  · have HN := hideT' (txt_none hn)
    clear hn
    go_wp2
    go_ret2
    exact ⟨by rw [HN.out.1, HN.out.2]; rfl, HB1.out⟩
  · have HN := hideT' (txt_some hr)
    have f1 := readP'_facts hr
    have htl := Lm.txt_len f1.2.2.2.1
    have HC2 := hideT' (appendComb_any t b w1.heap.size (.slice none 0 0) [] w1 (TrIn.mono (fun x _ hx => hx) hTr) (Nat.le_refl _) (World.ownsRow_nil _ _ _ _) f1.2.2.2.1 (by have := f1.2.1; simp only [List.length_nil]; omega) ((HTB.out.on HB1.out).up HB1.out.size))
    have htx : t.txt.length ≤ 800 := by have := f1.2.1; omega
    have HTX := hideT' htx
    clear hr f1 hTr htl htx
    go_wp2_with fail
    refine HC2.out.mono ?_
    rintro e w2 ⟨⟨v2, rfl, hown⟩, hB2⟩
    have HB2 : Hid (Below w.heap.size w w2) := HB1.out.trans (hB2.mono HB1.out.size)
    simp only [List.nil_append] at hown
    obtain ⟨u, hu⟩ : ∃ u, u = t.txt := ⟨_, rfl⟩
    rw [← hu] at hown HN HTX
    clear hB2 hu
    rcases hown.2 with ⟨rfl, h0⟩ | ⟨gb, cap, cur, rfl, hgb, hcur, hnc, hcm, hcs, htake⟩
    · have ht0 : u = [] := List.length_eq_zero_iff.1 (by simpa using h0)
      subst ht0
      have hcv := conv_nilT w2
      clear hown h0
      go_wp2
      go_ret2
      exact ⟨by rw [HN.out.1, HN.out.2]; rfl, HB2.out⟩
    · have hcv := run_convert_bytes_back (P := Tryd.prog) w2 57 9 5 ⟨gb, 0, none⟩ cap u Tryd.underlying57 Tryd.underlying5 Tryd.underlying9 (fun q hq => by
        have := hown.cells (g := gb) rfl q (.int .u8 (u[q].toNat : Int)) (by simp [Lib.byteCells, List.getElem?_eq_getElem hq])
        exact this)
      clear hown hcur htake
      go_wp2
      go_ret2
      exact ⟨by rw [HN.out.1, HN.out.2]; rfl, HB2.out⟩
end Go.Proofs.YtgolfbjfopoeeaaDoor.CB

/-
  Rows of Comb that are answers: what the laws' own helpers over them say.
-/
namespace Go.Proofs.YtgolfbjfopoeeaaDoor
open Go.RowKit
set_option linter.unusedVariables false
/-- One that is marked. -/
def markComb (k : Int) : Int × Int × Int := (k, k + 1, k + 1 + 1)
theorem runX_comb {o : Oper} {a : Act} {w : World} (x : Operand) (ho : o.op = .load 72 x) (b i : Nat) (hx : a.eval x = .pointer (some ⟨b, i * 3, none⟩)) (d : Int × Int × Int) (hD : w.rangeAt b (i * 3) (combL d)) :
    (execOp a.eval o).run Tryd.prog w = .ok (.value (.agg (combL d).toArray)) w := by
  have h := run_loadAt_mid (P := Tryd.prog) w b (i * 3) 72 (combL d) _ hD Tryd.underlying72 rfl zero_comb.2
  unfold execOp
  simp only [ho, hx, Sem.run_bind, h, Result.andThen_ok]
  rfl
set_option maxHeartbeats 1000000 in
set_option maxRecDepth 100000 in
theorem eqCombS_in (v1 v2 : Value) (l : List (Int × Int × Int)) (w : World) (hl : l.length ≤ 1048576) (h1 : InR w v1 combL 3 l) (h2 : InR w v2 combL 3 l) :
    Calls Tryd.prog 20 #[v1, v2] w fun e w' => e = .returned (.bool true) ∧ Below w.heap.size w w' := by
  obtain ⟨o1, cap1, rfl, h1⟩ := h1
  obtain ⟨o2, cap2, rfl, h2⟩ := h2
  rcases Classical.em (l = []) with rfl | hne
  · clear h1 h2
    go_enter Tryd.func20, Tryd.ntmps20
    go_wp2_with fail
    go_loopg [5] 0 (fun g i wr => i = .int .i64 0 ∧ wr = w)
    case atStart => exact ⟨rfl, rfl⟩
    case round =>
      obtain ⟨rfl, rfl⟩ := hrel
      go_wp2
      go_ret
      exact ⟨rfl, Below.refl _ _⟩
  obtain ⟨b1, rfl, hb1, h1⟩ := h1 hne
  obtain ⟨b2, rfl, hb2, h2⟩ := h2 hne
  have H1 := hideT' h1
  have H2 := hideT' h2
  clear h1 h2 hne
  go_enter Tryd.func20, Tryd.ntmps20
  go_wp2_with fail
  go_loopg [5] l.length (fun g i wr => ∃ k : Nat, g = l.length - k ∧ k ≤ l.length ∧ i = .int .i64 (k : Int) ∧ Below w.heap.size w wr)
  case atStart => exact ⟨0, rfl, by omega, rfl, Below.refl _ _⟩
  case round =>
    obtain ⟨k, hg, hk, rfl, hW⟩ := hrel
    by_cases hlt : (k : Int) < (l.length : Int)
    · have hk' : k < l.length := by omega
      obtain ⟨d, hd⟩ : ∃ d, d = l.getD k default := ⟨_, rfl⟩
      have HDM := hideT' hd
      have h1 := H1.out
      have h2 := H2.out
      clear hd
      have hrg : ∀ w', Below w.heap.size w w' → w'.rangeAt b1 (k * 3) (combL d) ∧ w'.rangeAt b2 (k * 3) (combL d) := fun w' hB => by
        refine ⟨fun j u hu => ?_, fun j u hu => ?_⟩
        · rw [hB.cell (p := ⟨b1, k * 3 + j, none⟩) hb1]; rw [HDM.out] at hu; exact h1 k j u hk' hu
        · rw [hB.cell (p := ⟨b2, k * 3 + j, none⟩) hb2]; rw [HDM.out] at hu; exact h2 k j u hk' hu
      have HRG := hideT' hrg
      have hS := hrg wr.drew (Below.drew hW)
      clear h1 h2 hrg
      go_wp2_with fail
      refine held_begin (fun w' => w'.rangeAt b1 (k * 3) (combL d) ∧ w'.rangeAt b2 (k * 3) (combL d)) (by kernel_rfl) ?_
      refine held_val 0 (some 17) rfl rfl (by kernel_rfl) (by kernel_rfl) (by kernel_rfl) noPanic_put rfl (.slice (some ⟨b1, 0, none⟩) l.length cap1) (fun _ => rfl) hS ?_
      simp only [Act.put, List.setIfInBounds_toArray, List.set_cons_zero, List.set_cons_succ]
      refine held_val 1 (some 18) rfl rfl (by kernel_rfl) (by kernel_rfl) (by kernel_rfl) noPanic_put rfl (.int .i64 (k : Int)) (fun _ => rfl) hS ?_
      simp only [Act.put, List.setIfInBounds_toArray, List.set_cons_zero, List.set_cons_succ]
      refine held_val 2 (some 19) rfl rfl (by kernel_rfl) (by kernel_rfl) (by kernel_rfl) noPanic_put rfl (.pointer (some ⟨b1, k * 3, none⟩)) (fun _ => by go_simp) hS ?_
      simp only [Act.put, List.setIfInBounds_toArray, List.set_cons_zero, List.set_cons_succ]
      refine held_valS 3 (some 20) rfl rfl (by kernel_rfl) (by kernel_rfl) (by kernel_rfl) noPanic_put rfl (.agg (combL d).toArray) (fun _ hw' => runX_comb _ rfl b1 k rfl d hw'.1) hS ?_
      simp only [Act.put, List.setIfInBounds_toArray, List.set_cons_zero, List.set_cons_succ]
      refine held_val 4 (some 21) rfl rfl (by kernel_rfl) (by kernel_rfl) (by kernel_rfl) noPanic_put rfl (.slice (some ⟨b2, 0, none⟩) l.length cap2) (fun _ => rfl) hS ?_
      simp only [Act.put, List.setIfInBounds_toArray, List.set_cons_zero, List.set_cons_succ]
      refine held_val 5 (some 22) rfl rfl (by kernel_rfl) (by kernel_rfl) (by kernel_rfl) noPanic_put rfl (.int .i64 (k : Int)) (fun _ => rfl) hS ?_
      simp only [Act.put, List.setIfInBounds_toArray, List.set_cons_zero, List.set_cons_succ]
      refine held_val 6 (some 23) rfl rfl (by kernel_rfl) (by kernel_rfl) (by kernel_rfl) noPanic_put rfl (.pointer (some ⟨b2, k * 3, none⟩)) (fun _ => by go_simp) hS ?_
      simp only [Act.put, List.setIfInBounds_toArray, List.set_cons_zero, List.set_cons_succ]
      refine held_valS 7 (some 24) rfl rfl (by kernel_rfl) (by kernel_rfl) (by kernel_rfl) noPanic_put rfl (.agg (combL d).toArray) (fun _ hw' => runX_comb _ rfl b2 k rfl d hw'.2) hS ?_
      simp only [Act.put, List.setIfInBounds_toArray, List.set_cons_zero, List.set_cons_succ]
      refine held_call 8 (some 25) (by kernel_rfl) rfl rfl rfl 42 #[.agg (combL d).toArray, .agg (combL d).toArray] (by go_simp) _ (eqComb_any d wr.drew) ?_
      rintro e w2 ⟨rfl, hW2⟩
      have hW2 : Below wr.heap.size wr w2 := ⟨hW2.os, hW2.tape, hW2.output, hW2.size, hW2.block⟩
      have hW3 := hW.trans (hW2.mono hW.size)
      have hS2 := HRG.out w2 hW3
      refine ⟨_, rfl, hS2, ?_⟩
      simp only [Act.put, List.setIfInBounds_toArray, List.set_cons_zero, List.set_cons_succ]
      refine held_val 9 (some 26) rfl rfl (by kernel_rfl) (by kernel_rfl) (by kernel_rfl) noPanic_put rfl (.bool false) (fun _ => by go_simp) hS2 ?_
      simp only [Act.put, List.setIfInBounds_toArray, List.set_cons_zero, List.set_cons_succ]
      refine wpAnyH_done (by kernel_rfl) ?_ _
      refine NoPanic.normal ?_
      go_wp2
      go_roundg (l.length - (k + 1))
      case measure => omega
      case rel => exact ⟨k + 1, rfl, by omega, by go_num, hW3⟩
    · go_wp2
      go_ret
      exact ⟨rfl, hW⟩
set_option maxHeartbeats 2000000 in
set_option maxRecDepth 100000 in
theorem markCombS_own (v : Value) (n : Nat) (xs0 : List Value) (k : Int) (B : Nat) (w : World) (hk0 : 0 < k) (hk1 : k + 3 * (n : Int) ≤ 1099511627776) (h : w.ownsRow B 72 3 v n xs0) :
    Calls Tryd.prog 23 #[v, .int .i64 k] w fun e w' => e = .returned (.int .i64 (k + 3 * (n : Int))) ∧ OwnR w' B v 72 combL 3 (markL markComb 3 k n) ∧ w.grownBy w' v.ownBlock := by
  rcases h.2 with ⟨rfl, rfl⟩ | ⟨b, cap, cur, rfl, hB, _⟩
  · have hx : k + 3 * ((0 : Nat) : Int) = k := by simp
    rw [hx]
    clear hx hk1
    go_enter Tryd.func23, Tryd.ntmps23
    go_wp2_with fail
    go_loopg [1, 5] 0 (fun g x i wr => x = .int .i64 k ∧ i = .int .i64 0 ∧ wr = w)
    case atStart => exact ⟨rfl, rfl, rfl⟩
    case round =>
      obtain ⟨rfl, rfl, rfl⟩ := hrel
      go_wp2
      go_ret
      exact ⟨rfl, by simpa [OwnR, markL] using World.ownsRow_nil _ _ _ _, ⟨rfl, rfl, rfl, Nat.le_refl _, fun _ _ _ => rfl⟩⟩
  · obtain ⟨N, hN⟩ : ∃ N : Int, N = k + 3 * (n : Int) := ⟨_, rfl⟩
    have HN := hideT' hN
    have HB := hideT' hk1
    clear hN hk1
    go_enter Tryd.func23, Tryd.ntmps23
    go_wp2_with fail
    go_loopg [1, 5] n (fun g x i wr => ∃ (j : Nat) (y : Int) (xs : List Value), g = n - j ∧ j ≤ n ∧ i = .int .i64 (j : Int) ∧ x = .int .i64 y ∧ 0 < y ∧ y ≤ 1099511627776 ∧ Hid (y = k + 3 * (j : Int)) ∧ wr.ownsRow B 72 3 (.slice (some ⟨b, 0, none⟩) n cap) n xs ∧ Hid (Marked combL markComb 3 k j xs) ∧ w.grownBy wr (some b))
    case atStart => exact ⟨0, k, xs0, rfl, by omega, rfl, rfl, by omega, by have := HB.out; omega, by simp [Hid], h, (fun j hj => by omega : Marked combL markComb 3 k 0 xs0), ⟨rfl, rfl, rfl, Nat.le_refl _, fun _ _ _ => rfl⟩⟩
    case round =>
      clear h
      obtain ⟨j, x, xs, hg, hj, rfl, rfl, hx0, hx1, HX, hown, HM, hG⟩ := hrel
      by_cases hlt : (j : Int) < (n : Int)
      · have hj' : j < n := by omega
        have HJ : Hid (j * 3 + 3 ≤ n * 3) := by unfold Hid; omega
        have hx2 : x + 3 ≤ 1099511627776 := by have := HB.out; have := HX.out; omega
        go_wp2_with (first | (refine store_own rfl 3 _ _ rfl rfl b (j * 3) (.int .i64 (x)) rfl rfl size1_int rfl hown (by have := HJ.out; omega) ?_; intro w1 own1 hg1 hs1) | (refine store_own rfl 3 _ _ rfl rfl b (j * 3 + 1) (.int .i64 (x + 1)) rfl rfl size1_int rfl own1 (by have := HJ.out; omega) ?_; intro w2 own2 hg2 hs2) | (refine store_own rfl 3 _ _ rfl rfl b (j * 3 + 2) (.int .i64 (x + 1 + 1)) rfl rfl size1_int rfl own2 (by have := HJ.out; omega) ?_; intro w3 own3 hg3 hs3))
        go_roundg (n - (j + 1))
        case measure => omega
        case rel =>
          have hbb := HB.out
          refine ⟨j + 1, x + 3, _, rfl, by omega, congrArg (Value.int .i64) (by unfold wrap64; omega), congrArg (Value.int .i64) (by omega), by omega, hx2, by have := HX.out; unfold Hid; omega, own3, ?_, (grownX_trans (grownX_trans (grownX_trans hG hg1) hg2) hg3)⟩
          intro i hi q hq
          by_cases e : i = j
          · subst e
            have hxe : k + ((3 : Nat) : Int) * (i : Int) = x := by have := HX.out; omega
            rw [hxe]
            have hl1 := hown.1
            match q, hq with
            | 0, _ => simp [List.getElem?_set, combL, markComb]; omega
            | 1, _ => simp [List.getElem?_set, combL, markComb]; omega
            | 2, _ => simp [List.getElem?_set, combL, markComb]; omega
          · exact (((HM.out.set (j * 3) (.int .i64 (x)) (by omega)).set (j * 3 + 1) (.int .i64 (x + 1)) (by omega)).set (j * 3 + 2) (.int .i64 (x + 1 + 1)) (by omega)) i (by omega) q hq
      · have hjn : j = n := by omega
        subst hjn
        have hxs := HM.out.all combL_len hown.1
        rw [hxs] at hown
        have HO := hideT' hown
        clear hown hxs
        have HXN : Hid (x = N) := by unfold Hid; rw [HX.out, HN.out]
        go_wp2
        go_ret
        refine ⟨by rw [← HN.out, ← HXN.out]; rfl, ?_, hG⟩
        have := HO.out
        unfold OwnR
        rw [markL_len]
        exact this
set_option maxHeartbeats 2000000 in
set_option maxRecDepth 100000 in
theorem heldCombS_in (v : Value) (n : Nat) (k : Int) (w : World) (hk0 : 0 < k) (hk1 : k + 3 * (n : Int) ≤ 1099511627776) (h : InR w v combL 3 (markL markComb 3 k n)) :
    Calls Tryd.prog 24 #[v, .int .i64 k] w fun e w' => e = .returned (.int .i64 (k + 3 * (n : Int))) ∧ Below w.heap.size w w' := by
  obtain ⟨o, cap, rfl, h⟩ := h
  rw [markL_len]
  rcases Nat.eq_zero_or_pos n with rfl | hn
  · have hx : k + 3 * ((0 : Nat) : Int) = k := by simp
    rw [hx]
    clear hx hk1 h
    go_enter Tryd.func24, Tryd.ntmps24
    go_wp2_with fail
    go_loopg [1, 5] 0 (fun g x i wr => x = .int .i64 k ∧ i = .int .i64 0 ∧ wr = w)
    case atStart => exact ⟨rfl, rfl, rfl⟩
    case round =>
      obtain ⟨rfl, rfl, rfl⟩ := hrel
      go_wp2
      go_ret
      exact ⟨rfl, Below.refl _ _⟩
  obtain ⟨b, rfl, hb, h1⟩ := h (by intro e; have := congrArg List.length e; rw [markL_len] at this; simp at this; omega)
  obtain ⟨N, hN⟩ : ∃ N : Int, N = k + 3 * (n : Int) := ⟨_, rfl⟩
  have HN := hideT' hN
  have HB := hideT' hk1
  have H1 := hideT' h1
  clear hN hk1 h1 h
  go_enter Tryd.func24, Tryd.ntmps24
  go_wp2_with fail
  go_loopg [1, 5] n (fun g x i wr => ∃ (j : Nat) (y : Int), g = n - j ∧ j ≤ n ∧ i = .int .i64 (j : Int) ∧ x = .int .i64 y ∧ 0 < y ∧ y ≤ 1099511627776 ∧ Hid (y = k + 3 * (j : Int)) ∧ Below w.heap.size w wr)
  case atStart => exact ⟨0, k, rfl, by omega, rfl, rfl, by omega, by have := HB.out; omega, by simp [Hid], Below.refl _ _⟩
  case round =>
    obtain ⟨j, x, hg, hj, rfl, rfl, hx0, hx1, HX, hW⟩ := hrel
    by_cases hlt : (j : Int) < (n : Int)
    · have hj' : j < n := by omega
      have hx2 : x + 3 ≤ 1099511627776 := by have := HB.out; have := HX.out; omega
      have hxe : k + ((3 : Nat) : Int) * (j : Int) = x := by have := HX.out; omega
      have hcell : ∀ q u, (combL (markComb x))[q]? = some u → wr.cell? ⟨b, j * 3 + q, none⟩ = some u := fun q u hu => by
        have := H1.out j q u (by rw [markL_len]; exact hj') (by rw [markL_get markComb 3 k n j hj', hxe]; exact hu)
        exact (hW.cell (p := ⟨b, j * 3 + q, none⟩) hb).trans this
      have c0 := hcell 0 (.int .i64 (x)) rfl
      have c1 := hcell 1 (.int .i64 (x + 1)) rfl
      have c2 := hcell 2 (.int .i64 (x + 1 + 1)) rfl
      rw [Nat.add_zero] at c0
      have HC := hideT' hcell
      clear hcell hxe
      go_wp2
      go_roundg (n - (j + 1))
      case measure => omega
      case rel =>
        have hbb := HB.out
        exact ⟨j + 1, x + 3, rfl, by omega, congrArg (Value.int .i64) (by unfold wrap64; omega), congrArg (Value.int .i64) (by omega), by omega, hx2, by have := HX.out; unfold Hid; omega, hW⟩
    · have hjn : j = n := by omega
      have HXN : Hid (x = N) := by unfold Hid; rw [HX.out, HN.out, hjn]
      go_wp2
      go_ret
      exact ⟨by rw [← HN.out, ← HXN.out]; rfl, hW⟩
end Go.Proofs.YtgolfbjfopoeeaaDoor

/-
  Nodes that came in as an argument: what their reading says of the cells.
-/
namespace Go.Proofs.YtgolfbjfopoeeaaDoor.CB
open Go.ChangeShapes Go.WideShapes Go.ChangeAt Go.RowKit
set_option linter.unusedVariables false

def ndsOf (l : List (Int × Int × Int)) : List Nd := l.map fun x => ⟨x.1, x.2.1, x.2.2⟩
theorem tri_ndsOf (l : List (Int × Int × Int)) : tri (ndsOf l) = l := by
  unfold tri ndsOf triN
  rw [List.map_map]
  exact List.map_id' l
theorem ndsOf_len (l : List (Int × Int × Int)) : (ndsOf l).length = l.length := by simp [ndsOf]
theorem ndsOf_tri (l : List Nd) : ndsOf (tri l) = l := by
  unfold tri ndsOf triN
  rw [List.map_map]
  exact List.map_id' l
theorem RecAt.nds {w : World} {b : Nat} {T : TypeId} {l : List (Int × Int × Int)} (h : RecAt w b T combL l) : NdIn w (slR b l) (ndsOf l) := by
  unfold NdIn
  rw [tri_ndsOf]
  exact h.inR combL_len

theorem cells_intT : Tryd.prog.cellsOf 3 = 1 := by kernel_rfl
set_option maxRecDepth 100000 in
theorem open_term {H : Type} {enc : TypeId × Value → H} {W : World} (n : Nat) (cs : List Value) (x : DataW H × List MemPlace) (hl : cs.length = 3) (h : DataW.trod enc Tryd.prog W 0 (fun _ => true) true n 74 cs = some x) :
    ∃ d : Int × Int × Int, cs = combL d ∧ True := by
  obtain ⟨xs, m, _, _, _, hlen, hf⟩ := DataW.trod_struct Tryd.underlying74 h
  obtain ⟨a, b, c, rfl⟩ : ∃ a b c, cs = [a, b, c] := by
    match cs, hl with
    | [a, b, c], _ => exact ⟨a, b, c, rfl⟩
  obtain ⟨y0, y1, y2, rfl⟩ : ∃ y0 y1 y2, xs = [y0, y1, y2] := by
    match xs, hlen with
    | [y0, y1, y2], _ => exact ⟨y0, y1, y2, rfl⟩
  have g0 : DataW.trod enc Tryd.prog W 0 (fun _ => true) true m 3 (([a, b, c].drop 0).take (Tryd.prog.cellsOf 3)) = some y0 := by simpa using hf 0 _ rfl
  have g1 : DataW.trod enc Tryd.prog W 0 (fun _ => true) true m 3 (([a, b, c].drop 1).take (Tryd.prog.cellsOf 3)) = some y1 := by simpa using hf 1 _ rfl
  have g2 : DataW.trod enc Tryd.prog W 0 (fun _ => true) true m 3 (([a, b, c].drop 2).take (Tryd.prog.cellsOf 3)) = some y2 := by simpa using hf 2 _ rfl
  rw [cells_intT] at g0 g1 g2
  obtain ⟨k, e0, _, _⟩ := DataW.trod_int Tryd.underlying3 g0
  obtain ⟨u, e1, _, _⟩ := DataW.trod_int Tryd.underlying3 g1
  obtain ⟨t, e2, _, _⟩ := DataW.trod_int Tryd.underlying3 g2
  simp at e0 e1 e2
  exact ⟨(k, u, t), by rw [e0, e1, e2]; rfl, trivial⟩
theorem cells_lterm : Tryd.prog.cellsOf 74 = 3 := by kernel_rfl

set_option maxRecDepth 100000 in
theorem open_terms {H : Type} {enc : TypeId × Value → H} {W : World} {base : Nat} {v : Value} {d : DataW H} {ps : List MemPlace} (hval : Value.okWide Tryd.prog W .any base 34 v) (h : DataW.Trod enc Tryd.prog W 0 (fun _ => true) true 34 v d ps) :
    ∃ l : List (Int × Int × Int), SlR W v combL 3 l ∧ l.length ≤ maxLen := by
  obtain ⟨a0, len, cap, rfl⟩ := okWide_slice Tryd.underlying34 hval
  obtain ⟨fuel, hf⟩ := h
  obtain ⟨v', l, e1, hL, q1, q2⟩ := open_recs combL 3 (by decide) combL_len (fun _ => True) Tryd.underlying34 cells_lterm open_term hf
  have e2 : Value.slice a0 len cap = v' := by simpa [Value.cells] using e1
  rw [e2]
  exact ⟨l, hL, q2⟩
end Go.Proofs.YtgolfbjfopoeeaaDoor.CB
