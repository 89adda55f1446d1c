/-
  The texts SpecTxt, ReadT, MarkTerm, one behind the other, as one.
-/
import Derived.Test.YtgolfbjfopoeeaaDoorTailReadTermA
import Derived.Test.YtgolfbjfopoeeaaDoorBaseLate
import Derived.Test.YtgolfbjfopoeeaaDoorImplTell
import Derived.Test.YtgolfbjfopoeeaaDoorRecs2
import Derived.Test.YtgolfbjfopoeeaaDoorRecTerm

/-
  What lcText of the model answers: the text of a tree.
-/
namespace Go.Proofs.YtgolfbjfopoeeaaDoor
open Go.RowKit BL
set_option linter.unusedVariables false

set_option maxHeartbeats 8000000 in
set_option maxRecDepth 100000 in
theorem lcText_any : ∀ (t : Lm), t.ok = true → t.txt.length ≤ 10000000 → ∀ (z : Value) (P : Nat → Prop) (w : World), LcIn w P t z →
    Calls Tryd.prog 26 #[.agg (lcC t.kd t.nm z)] w fun e w' => e = .returned (.string ⟨t.txt.toArray⟩) ∧ Below w.heap.size w w'
  | .var n, hok, hlen, z, P, w, hz => by
    simp only [Lm.ok, Bool.and_eq_true, decide_eq_true_eq] at hok
    obtain ⟨k, rfl⟩ := Int.eq_ofNat_of_zero_le hok.1
    obtain ⟨o, c, rfl⟩ := hz
    have hBW : Below w.heap.size w (w.alloc (.cells #[.int .i64 1, .int .i64 (k : Int), .slice o 0 c] 48)) := (Below.refl _ _).alloc (Nat.le_refl _) _
    have HC := hideT' (l1NumN_any k (by omega) (w.alloc (.cells #[.int .i64 1, .int .i64 (k : Int), .slice o 0 c] 48)))
    have HB := hideT' hBW
    show Calls Tryd.prog 26 #[.agg #[.int .i64 1, .int .i64 (k : Int), .slice o 0 c]] w _
    clear hok hlen hBW
    go_enter Tryd.func26, Tryd.ntmps26
    go_wp2_with fail
    refine HC.out.mono ?_
    rintro e w1 ⟨rfl, hB1⟩
    have HB1 : Hid (Below w.heap.size w w1) := HB.out.trans (hB1.mono (by simp))
    clear hB1
    go_wp2
    go_ret
    exact ⟨rfl, HB1.out⟩
  | .lam a, hok, hlen, z, P, w, hz => by
    obtain ⟨g, cz, za, rfl, hg, ⟨a0, a1, a2⟩, ha⟩ := hz
    have hal : a.txt.length + 1 ≤ 10000000 := by simpa [Lm.txt] using hlen
    have hBW : Below w.heap.size w (w.alloc (.cells #[.int .i64 2, .int .i64 0, .slice (some ⟨g, 0, none⟩) 1 cz] 48)) := (Below.refl _ _).alloc (Nat.le_refl _) _
    have HC := hideT' (lcText_any a hok (by omega) za P _ (ha.below (hBW.mono (Nat.le_refl _))))
    have HB := hideT' hBW
    obtain ⟨xa, hxa⟩ : ∃ xa : ByteArray, xa = ⟨a.txt.toArray⟩ := ⟨_, rfl⟩
    have hxs : xa.size = a.txt.length := by rw [hxa]; simp [ByteArray.size]
    have hza : (⟨#[92]⟩ : ByteArray).size + xa.size ≤ 9223372036854775807 := by show 1 + _ ≤ _; omega
    rw [← hxa] at HC
    have HN : Hid ((⟨(Lm.lam a).txt.toArray⟩ : ByteArray) = (⟨#[92]⟩ : ByteArray) ++ xa) := by unfold Hid; rw [hxa]; apply ByteArray.ext; apply Array.ext'; simp [Lm.txt]
    obtain ⟨ka, hka⟩ : ∃ ka, ka = a.kd := ⟨_, rfl⟩
    obtain ⟨na, hna⟩ : ∃ na, na = a.nm := ⟨_, rfl⟩
    rw [← hka, ← hna] at HC
    rw [← hka] at a0
    rw [← hna] at a1
    have hzo := ha.one
    obtain ⟨oa, ca, hzz⟩ := ha.form
    subst hzz
    have hgl := hg.1
    show Calls Tryd.prog 26 #[.agg #[.int .i64 2, .int .i64 0, .slice (some ⟨g, 0, none⟩) 1 cz]] w _
    clear hok hlen hBW ha hg hxa hal hka hna hxs hzo
    go_enter Tryd.func26, Tryd.ntmps26
    go_wp2_with fail
    refine HC.out.mono ?_
    rintro e w1 ⟨rfl, hB1⟩
    have HB1 : Hid (Below w.heap.size w w1) := HB.out.trans (hB1.mono (by simp))
    clear hB1
    go_wp2
    go_ret
    exact ⟨by rw [HN.out]; rfl, HB1.out⟩
  | .app a b, hok, hlen, z, P, w, hz => by
    obtain ⟨g, cz, za, zb, rfl, hg, ⟨a0, a1, a2⟩, ⟨b0, b1, b2⟩, ha, hb⟩ := hz
    have hal : a.txt.length + b.txt.length + 3 ≤ 10000000 := by simp only [Lm.txt, List.length_cons, List.length_append, List.length_nil] at hlen; omega
    simp only [Lm.ok, Bool.and_eq_true] at hok
    obtain ⟨W, hW⟩ : ∃ W, W = w.alloc (.cells #[.int .i64 3, .int .i64 0, .slice (some ⟨g, 0, none⟩) 2 cz] 48) := ⟨_, rfl⟩
    have hBW : Below w.heap.size w W := by rw [hW]; exact (Below.refl _ _).alloc (Nat.le_refl _) _
    have hWs : W.heap.size = w.heap.size + 1 := by rw [hW]; simp
    have HCa : Hid (∀ w', Below W.heap.size W w' → Calls Tryd.prog 26 #[.agg (lcC a.kd a.nm za)] w' fun e w'' => e = .returned (.string ⟨a.txt.toArray⟩) ∧ Below w'.heap.size w' w'') := fun w' h => lcText_any a hok.1 (by omega) za P w' ((ha.below hBW).below h)
    have HCb : Hid (∀ w', Below W.heap.size W w' → Calls Tryd.prog 26 #[.agg (lcC b.kd b.nm zb)] w' fun e w'' => e = .returned (.string ⟨b.txt.toArray⟩) ∧ Below w'.heap.size w' w'') := fun w' h => lcText_any b hok.2 (by omega) zb P w' ((hb.below hBW).below h)
    obtain ⟨xa, hxa⟩ : ∃ xa : ByteArray, xa = ⟨a.txt.toArray⟩ := ⟨_, rfl⟩
    obtain ⟨xb, hxb⟩ : ∃ xb : ByteArray, xb = ⟨b.txt.toArray⟩ := ⟨_, rfl⟩
    have hxas : xa.size = a.txt.length := by rw [hxa]; simp [ByteArray.size]
    have hxbs : xb.size = b.txt.length := by rw [hxb]; simp [ByteArray.size]
    have hza : (⟨#[40]⟩ : ByteArray).size + xa.size ≤ 9223372036854775807 := by show 1 + _ ≤ _; omega
    have hzb : ((⟨#[40]⟩ : ByteArray) ++ xa).size + (⟨#[32]⟩ : ByteArray).size ≤ 9223372036854775807 := by rw [ByteArray.size_append]; show 1 + _ + 1 ≤ _; omega
    have hzc : ((⟨#[40]⟩ : ByteArray) ++ xa ++ (⟨#[32]⟩ : ByteArray)).size + xb.size ≤ 9223372036854775807 := by rw [ByteArray.size_append, ByteArray.size_append]; show 1 + _ + 1 + _ ≤ _; omega
    have hzd : ((⟨#[40]⟩ : ByteArray) ++ xa ++ (⟨#[32]⟩ : ByteArray) ++ xb).size + (⟨#[41]⟩ : ByteArray).size ≤ 9223372036854775807 := by rw [ByteArray.size_append, ByteArray.size_append, ByteArray.size_append]; show 1 + _ + 1 + _ + 1 ≤ _; omega
    have HN : Hid ((⟨(Lm.app a b).txt.toArray⟩ : ByteArray) = (⟨#[40]⟩ : ByteArray) ++ xa ++ (⟨#[32]⟩ : ByteArray) ++ xb ++ (⟨#[41]⟩ : ByteArray)) := by unfold Hid; rw [hxa, hxb]; apply ByteArray.ext; apply Array.ext'; simp [Lm.txt]
    have hsum : xa.size + xb.size ≤ 10000000 := by omega
    rw [← hxa] at HCa
    rw [← hxb] at HCb
    have hgW : g < W.heap.size := by have := hg.1; omega
    have hH : w.heap.size < W.heap.size := by omega
    have t2 : W.cell? ⟨w.heap.size, 2, none⟩ = some (.slice (some ⟨g, 0, none⟩) 2 cz) := by rw [hW, cell_of_row _ _ _ _ _ _ (RowAt.new w 48 _)]; rfl
    have hgl := hg.1
    have a0 := (hBW.cell (p := ⟨g, 0, none⟩) hgl).trans a0
    have a1 := (hBW.cell (p := ⟨g, 1, none⟩) hgl).trans a1
    have a2 := (hBW.cell (p := ⟨g, 2, none⟩) hgl).trans a2
    have b0 := (hBW.cell (p := ⟨g, 3, none⟩) hgl).trans b0
    have b1 := (hBW.cell (p := ⟨g, 4, none⟩) hgl).trans b1
    have b2 := (hBW.cell (p := ⟨g, 5, none⟩) hgl).trans b2
    have HB := hideT' hBW
    obtain ⟨oa, ca, hzz⟩ := ha.form
    subst hzz
    obtain ⟨ob, cb, hzz⟩ := hb.form
    subst hzz
    show Calls Tryd.prog 26 #[.agg #[.int .i64 3, .int .i64 0, .slice (some ⟨g, 0, none⟩) 2 cz]] w _
    clear hok hlen hBW ha hb hg hxa hxb hal hxas hxbs hWs
    go_enter Tryd.func26, Tryd.ntmps26
    go_wp2_with fail
    rw [← hW]
    have hS : Below W.heap.size W W.drew := (Below.refl _ _).drew
    refine held_begin (fun w' => Below W.heap.size W w') (by kernel_rfl) ?_
    refine held_valS 0 (some 18) rfl rfl (by kernel_rfl) (by kernel_rfl) (by kernel_rfl) noPanic_put rfl (.pointer (some ⟨w.heap.size, 2, none⟩)) (fun _ _ => by go_simp) hS ?_
    simp only [Act.put, List.setIfInBounds_toArray, List.set_cons_zero, List.set_cons_succ]
    refine held_valS 1 (some 19) rfl rfl (by kernel_rfl) (by kernel_rfl) (by kernel_rfl) noPanic_put rfl (.slice (some ⟨g, 0, none⟩) 2 cz) (fun w' h => by have q := ((h.cell (p := ⟨w.heap.size, 2, none⟩) hH).trans t2); go_simp) hS ?_
    simp only [Act.put, List.setIfInBounds_toArray, List.set_cons_zero, List.set_cons_succ]
    refine held_valS 2 (some 20) rfl rfl (by kernel_rfl) (by kernel_rfl) (by kernel_rfl) noPanic_put rfl (.pointer (some ⟨g, 0, none⟩)) (fun _ _ => by go_simp) hS ?_
    simp only [Act.put, List.setIfInBounds_toArray, List.set_cons_zero, List.set_cons_succ]
    refine held_valS 3 (some 21) rfl rfl (by kernel_rfl) (by kernel_rfl) (by kernel_rfl) noPanic_put rfl (.agg (lcC a.kd a.nm (.slice oa a.kids.length ca))) (fun w' h => by unfold lcC; have q0 := ((h.cell (p := ⟨g, 0, none⟩) hgW).trans a0); have q1 := ((h.cell (p := ⟨g, 1, none⟩) hgW).trans a1); have q2 := ((h.cell (p := ⟨g, 2, none⟩) hgW).trans a2); go_simp) hS ?_
    simp only [Act.put, List.setIfInBounds_toArray, List.set_cons_zero, List.set_cons_succ]
    refine held_valS 7 (some 25) rfl rfl (by kernel_rfl) (by kernel_rfl) (by kernel_rfl) noPanic_put rfl (.pointer (some ⟨w.heap.size, 2, none⟩)) (fun _ _ => by go_simp) hS ?_
    simp only [Act.put, List.setIfInBounds_toArray, List.set_cons_zero, List.set_cons_succ]
    refine held_valS 8 (some 26) rfl rfl (by kernel_rfl) (by kernel_rfl) (by kernel_rfl) noPanic_put rfl (.slice (some ⟨g, 0, none⟩) 2 cz) (fun w' h => by have q := ((h.cell (p := ⟨w.heap.size, 2, none⟩) hH).trans t2); go_simp) hS ?_
    simp only [Act.put, List.setIfInBounds_toArray, List.set_cons_zero, List.set_cons_succ]
    refine held_valS 9 (some 27) rfl rfl (by kernel_rfl) (by kernel_rfl) (by kernel_rfl) noPanic_put rfl (.pointer (some ⟨g, 3, none⟩)) (fun _ _ => by go_simp) hS ?_
    simp only [Act.put, List.setIfInBounds_toArray, List.set_cons_zero, List.set_cons_succ]
    refine held_valS 10 (some 28) rfl rfl (by kernel_rfl) (by kernel_rfl) (by kernel_rfl) noPanic_put rfl (.agg (lcC b.kd b.nm (.slice ob b.kids.length cb))) (fun w' h => by unfold lcC; have q0 := ((h.cell (p := ⟨g, 3, none⟩) hgW).trans b0); have q1 := ((h.cell (p := ⟨g, 4, none⟩) hgW).trans b1); have q2 := ((h.cell (p := ⟨g, 5, none⟩) hgW).trans b2); go_simp) hS ?_
    simp only [Act.put, List.setIfInBounds_toArray, List.set_cons_zero, List.set_cons_succ]
    refine held_call 4 (some 22) (by kernel_rfl) rfl rfl rfl 26 #[.agg (lcC a.kd a.nm (.slice oa a.kids.length ca))] (by go_simp) _ (HCa.out W.drew hS) ?_
    rintro e w5 ⟨rfl, hB5⟩
    have hS5 : Below W.heap.size W w5 := hS.trans (hB5.mono (Nat.le_refl _))
    refine ⟨_, rfl, hS5, ?_⟩
    simp only [Act.put, List.setIfInBounds_toArray, List.set_cons_zero, List.set_cons_succ]
    refine held_val 5 (some 23) rfl rfl (by kernel_rfl) (by kernel_rfl) (by kernel_rfl) noPanic_put rfl (.string ((⟨#[40]⟩ : ByteArray) ++ xa)) (fun _ => by go_simp; omega) hS5 ?_
    simp only [Act.put, List.setIfInBounds_toArray, List.set_cons_zero, List.set_cons_succ]
    refine held_val 6 (some 24) rfl rfl (by kernel_rfl) (by kernel_rfl) (by kernel_rfl) noPanic_put rfl (.string ((⟨#[40]⟩ : ByteArray) ++ xa ++ (⟨#[32]⟩ : ByteArray))) (fun _ => by go_simp; omega) hS5 ?_
    simp only [Act.put, List.setIfInBounds_toArray, List.set_cons_zero, List.set_cons_succ]
    refine held_call 11 (some 29) (by kernel_rfl) rfl rfl rfl 26 #[.agg (lcC b.kd b.nm (.slice ob b.kids.length cb))] (by go_simp) _ (HCb.out w5 hS5) ?_
    rintro e w6 ⟨rfl, hB6⟩
    have hS6 : Below W.heap.size W w6 := hS5.trans (hB6.mono hS5.size)
    refine ⟨_, rfl, hS6, ?_⟩
    simp only [Act.put, List.setIfInBounds_toArray, List.set_cons_zero, List.set_cons_succ]
    refine held_val 12 (some 30) rfl rfl (by kernel_rfl) (by kernel_rfl) (by kernel_rfl) noPanic_put rfl (.string ((⟨#[40]⟩ : ByteArray) ++ xa ++ (⟨#[32]⟩ : ByteArray) ++ xb)) (fun _ => by go_simp; omega) hS6 ?_
    simp only [Act.put, List.setIfInBounds_toArray, List.set_cons_zero, List.set_cons_succ]
    refine held_val 13 (some 31) rfl rfl (by kernel_rfl) (by kernel_rfl) (by kernel_rfl) noPanic_put rfl (.string ((⟨#[40]⟩ : ByteArray) ++ xa ++ (⟨#[32]⟩ : ByteArray) ++ xb ++ (⟨#[41]⟩ : ByteArray))) (fun _ => by go_simp; omega) hS6 ?_
    simp only [Act.put, List.setIfInBounds_toArray, List.set_cons_zero, List.set_cons_succ]
    refine held_assign 14 (some 2) (by kernel_rfl) rfl rfl _ rfl rfl (.string ((⟨#[40]⟩ : ByteArray) ++ xa ++ (⟨#[32]⟩ : ByteArray) ++ xb ++ (⟨#[41]⟩ : ByteArray))) rfl hS6 ?_
    simp only [Act.put, List.setIfInBounds_toArray, List.set_cons_zero, List.set_cons_succ]
    refine wpAnyH_done (by kernel_rfl) ?_ _
    refine NoPanic.normal ?_
    have HF : Hid (Below w.heap.size w w6) := HB.out.trans (hS6.mono HB.out.size)
    clear hS hS5 hS6 hB5 hB6 hW
    go_wp2
    go_ret
    exact ⟨by rw [HN.out]; rfl, HF.out⟩
end Go.Proofs.YtgolfbjfopoeeaaDoor

/-
  What both ReadTerm answer.
-/
namespace Go.Proofs.YtgolfbjfopoeeaaDoor
open Go.RowKit BL
set_option linter.unusedVariables false

theorem told_chk (o : Option Lm) : toldB (o.bind Lm.chk) = toldB o ∧ toldL (o.bind Lm.chk) = toldL o := by
  cases o with
  | none => exact ⟨rfl, rfl⟩
  | some t =>
    by_cases h : t.good = true
    · simp [Lm.chk, h]
    · simp [Lm.chk, h, toldB, toldL]
theorem TOut.chk {w : World} {o : Option Lm} {e : Ending} {w' : World} (h : TOut w o e w') : TOut w (o.bind Lm.chk) e w' := by
  unfold TOut at *
  rw [(told_chk o).1, (told_chk o).2]
  exact h
set_option maxHeartbeats 4000000 in
set_option maxRecDepth 100000 in
theorem implReadTerm_any (s : ByteArray) (w : World) (hs : s.size ≤ 1048576) (hT : TabH w.heap.size w) (hE : EV w) :
    Calls Tryd.prog 13 #[.string s] w fun e w' => TOut w (ansT s.data.toList) e w' ∧ Below w.heap.size w w' := by
  rw [← ansP_eq]
  have e2 : s.data.toList.length = s.size := by simp
  by_cases h450 : (450 : Int) < (s.size : Int)
  · have HN : Hid (ansP s.data.toList = none) := by unfold Hid ansP; rw [if_pos (by omega)]
    clear hT hE e2
    go_enter Tryd.func13, Tryd.ntmps13
    go_wp2
    go_ret2
    exact ⟨TOut.bad (by rw [HN.out]; rfl), Below.refl _ _⟩
  · have HA : Hid (ansP s.data.toList = match rdP (s.size + 1) s.data.toList with | none => none | some (t, q) => if q = [] then some t else none) := by unfold Hid ansP; rw [if_neg (by omega), e2]; cases rdP (s.size + 1) s.data.toList <;> rfl
    have HC := hideT' (readTerm_all (s.size + 1) s w (by omega) (by omega) hT hE)
    have HSZ : Hid (∀ t q, rdP (s.size + 1) s.data.toList = some (t, q) → t.sz ≤ 450) := fun t q h => by have := (rdP_some _ _ _ _ h).2.2; omega
    clear hT hE e2
    go_enter Tryd.func13, Tryd.ntmps13
    go_wp2_with fail
    refine HC.out.mono ?_
    rintro e w1 ⟨hans, hB1⟩
    have HB1 := hideT' hB1
    clear hB1
    rcases hans with ⟨hn, p, s1, rfl⟩ | ⟨t, y, b, ho, rfl, hTr⟩
    · have HN : Hid (ansP s.data.toList = none) := by unfold Hid; rw [HA.out, hn]
      clear hn
      go_wp2
      go_ret2
      exact ⟨TOut.bad (by rw [HN.out]; rfl), HB1.out⟩
    · have hsz := HSZ.out t _ ho
      by_cases hy : y.data.toList = []
      · have HN : Hid (ansP s.data.toList = some t) := by unfold Hid; rw [HA.out, ho]; simp only; rw [if_pos hy]
        have hye : (y.toList == []) = true := str_eq hy
        have HC2 := hideT' (tellTree_any t b _ w1 hTr (by omega))
        clear ho hTr hy hsz
        go_wp2_with fail
        refine HC2.out.mono ?_
        rintro e w2 ⟨hT2, hB2⟩
        have HB2 : Hid (Below w.heap.size w w2) := HB1.out.trans (hB2.mono HB1.out.size)
        have hO := hT2.out (w := w) (o := ansP s.data.toList) HB1.out.size HN.out
        obtain ⟨u, he, hOw⟩ := hT2.parts
        subst he
        have HO := hideT' hO
        clear hT2 hB2 hO hOw
        go_wp2
        go_ret2
        exact ⟨TOut.chk HO.out, HB2.out⟩
      · have HN : Hid (ansP s.data.toList = none) := by unfold Hid; rw [HA.out, ho]; simp only; rw [if_neg hy]
        have hye : (y.toList == []) = false := str_ne hy
        clear ho hTr hy hsz
        go_wp2
        go_ret2
        exact ⟨TOut.bad (by rw [HN.out]; rfl), HB1.out⟩
set_option maxHeartbeats 4000000 in
set_option maxRecDepth 100000 in
theorem specReadTerm_any (s : ByteArray) (w : World) (hs : s.size ≤ 1048576) :
    Calls Tryd.prog 12 #[.string s] w fun e w' => TOut w (ansT s.data.toList) e w' ∧ Below w.heap.size w w' := by
  have hz := zero_lcT.1
  have e2 : s.data.toList.length = s.size := by simp
  have HC := hideT' (lcRead_all 40 s 1 w (by omega) hs (by decide))
  have HA : Hid (ansM s.data.toList = match rdM 40 s.data.toList with | none => none | some (t, n) => if n = s.size ∧ t.txt = s.data.toList then some t else none) := by unfold Hid ansM; rw [e2]; cases rdM 40 s.data.toList <;> rfl
  have HLN : Hid (∀ t n, rdM 40 s.data.toList = some (t, n) → 0 < n ∧ t.txt.length ≤ 10000000 ∧ t.ok = true) := fun t n h => by have := rdM_len _ _ _ _ h; exact ⟨this.1, by omega, this.2.2.2⟩
  unfold ansT
  clear e2
  go_enter Tryd.func12, Tryd.ntmps12
  go_wp2_with fail
  refine HC.out.mono ?_
  rintro e w1 ⟨hans, hB1⟩
  have HB1 := hideT' hB1
  clear hB1
  rcases hans with ⟨hn, k, x, q, m, c, rfl⟩ | ⟨t, n, z, ho, rfl, hz1⟩
  · have HN : Hid (ansM s.data.toList = none) := by unfold Hid; rw [HA.out, hn]
    have HB2 : Hid (Below w.heap.size w (w1.alloc (.cells #[.int .i64 k, .int .i64 x, .slice q m c] 48))) := HB1.out.alloc HB1.out.size _
    unfold lcC
    clear hn
    go_wp2
    go_ret2
    exact ⟨TOut.bad (by rw [HN.out]; rfl), HB2.out⟩
  · obtain ⟨hn0, hlen, hok⟩ := HLN.out t n ho
    obtain ⟨oz, cz, hzz⟩ := hz1.form
    subst hzz
    have hn0b : ((n : Int) == 0) = false := by rw [beq_eq_false_iff_ne]; omega
    obtain ⟨W2, hW2⟩ : ∃ W2, W2 = w1.alloc (.cells #[.int .i64 t.kd, .int .i64 t.nm, .slice oz t.kids.length cz] 48) := ⟨_, rfl⟩
    have hB2 : Below w1.heap.size w1 W2 := by rw [hW2]; exact (Below.refl _ _).alloc (Nat.le_refl _) _
    have HB2 : Hid (Below w.heap.size w W2) := HB1.out.trans (hB2.mono HB1.out.size)
    by_cases hns : (n : Int) = (s.size : Int)
    · obtain rfl : n = s.size := by omega
      have hnsb : ((s.size : Int) == (s.size : Int)) = true := by simp
      have hnsn : ((s.size : Int) != (s.size : Int)) = false := by simp
      clear hns
      have hz2 : LcIn W2 (fun y => w.heap.size ≤ y) t (.slice oz t.kids.length cz) := LcIn.keep (w := w1) hB2.size (fun y _ hy => hB2.block y hy) (fun y hy _ => hy) hz1
      have HZ2 := hideT' hz2
      have HC2 := hideT' (lcText_any t hok hlen _ _ W2 hz2)
      have hRR : RowAt W2 w1.heap.size 48 #[.int .i64 t.kd, .int .i64 t.nm, .slice oz t.kids.length cz] := by rw [hW2]; exact RowAt.new _ _ _
      have HRR := hideT' hRR
      obtain ⟨x, hx⟩ : ∃ x : ByteArray, x = ⟨t.txt.toArray⟩ := ⟨_, rfl⟩
      rw [← hx] at HC2
      have hxl : x.data.toList = t.txt := by rw [hx]
      have hnn : s.size = s.size := rfl
      have hs2 := hB2.size
      have hlt1 : w1.heap.size < W2.heap.size := HRR.out.lt
      unfold lcC at HC2 ⊢
      clear hz1 hz2 hB2 hx hlen hok hRR
      by_cases hxe : x = s
      · have HN : Hid (ansM s.data.toList = some t) := by unfold Hid; rw [HA.out, ho]; simp only; rw [if_pos (by refine ⟨?_, by rw [← hxl, hxe]⟩; first | trivial | rfl)]
        have hxeb : (x.toList == s.toList) = true := by rw [hxe]; simp
        have hxen : (x.toList != s.toList) = false := by rw [bne, hxeb]; rfl
        clear ho hxl hxe hnn
        go_wp2_with fail
        rw [← hW2]
        refine HC2.out.mono ?_
        rintro e w3 ⟨rfl, hB3⟩
        have HB3 : Hid (Below w.heap.size w w3) := HB2.out.trans (hB3.mono HB2.out.size)
        have hR3 : RowAt w3 w1.heap.size 48 #[.int .i64 t.kd, .int .i64 t.nm, .slice oz t.kids.length cz] := HRR.out.below hB3 (by omega)
        have c0 : w3.cell? ⟨w1.heap.size, 0, none⟩ = some (.int .i64 t.kd) := by rw [cell_of_row _ _ _ _ _ _ hR3]; rfl
        have c1 : w3.cell? ⟨w1.heap.size, 1, none⟩ = some (.int .i64 t.nm) := by rw [cell_of_row _ _ _ _ _ _ hR3]; rfl
        have c2 : w3.cell? ⟨w1.heap.size, 2, none⟩ = some (.slice oz t.kids.length cz) := by rw [cell_of_row _ _ _ _ _ _ hR3]; rfl
        have HC3 := hideT' (lcTold_any t (.slice oz t.kids.length cz) _ w3 (HZ2.out.below hB3))
        unfold lcC at HC3
        clear hB3 hR3 hW2
        go_wp2_with fail
        refine HC3.out.mono ?_
        rintro e w4 ⟨hT2, hB4⟩
        have HB4 : Hid (Below w.heap.size w w4) := HB3.out.trans (hB4.mono HB3.out.size)
        have hO := hT2.out (w := w) (o := ansM s.data.toList) HB3.out.size HN.out
        obtain ⟨u, he, hOw⟩ := hT2.parts
        subst he
        have HO := hideT' hO
        clear hT2 hB4 hO hOw
        go_wp2
        go_ret2
        exact ⟨TOut.chk HO.out, HB4.out⟩
      · have hne : x.data.toList ≠ s.data.toList := fun e => hxe (WideShapes.bytes_inj e)
        have HN : Hid (ansM s.data.toList = none) := by unfold Hid; rw [HA.out, ho]; simp only; rw [if_neg (by rintro ⟨_, h⟩; exact hne (by rw [hxl]; exact h))]
        have hxeb : (x.toList == s.toList) = false := by rw [ByteArray.toList_eq, ByteArray.toList_eq]; simpa using hne
        have hxen : (x.toList != s.toList) = true := by rw [bne, hxeb]; rfl
        clear ho hxl hxe hnn hne
        go_wp2_with fail
        rw [← hW2]
        refine HC2.out.mono ?_
        rintro e w3 ⟨rfl, hB3⟩
        have HB3 : Hid (Below w.heap.size w w3) := HB2.out.trans (hB3.mono HB2.out.size)
        clear hB3 hW2
        go_wp2
        go_ret2
        exact ⟨TOut.bad (by rw [HN.out]; rfl), HB3.out⟩
    · have hnsb : ((n : Int) == (s.size : Int)) = false := by rw [beq_eq_false_iff_ne]; exact hns
      have hnsn : ((n : Int) != (s.size : Int)) = true := by rw [bne, hnsb]; rfl
      have HN : Hid (ansM s.data.toList = none) := by unfold Hid; rw [HA.out, ho]; simp only; rw [if_neg (by rintro ⟨h, _⟩; exact hns (by rw [h]))]
      unfold lcC
      clear ho hz1 hB2 hlen hok
      go_wp2
      go_ret2
      exact ⟨TOut.bad (by rw [HN.out]; rfl), by rw [← hW2]; exact HB2.out⟩
end Go.Proofs.YtgolfbjfopoeeaaDoor

/-
  Rows of Term that are answers: what the laws' own helpers over them say.
-/
namespace Go.Proofs.YtgolfbjfopoeeaaDoor
open Go.RowKit
set_option linter.unusedVariables false
/-- One that is marked. -/
def markTerm (k : Int) : Int × Int × Int := (k, k + 1, k + 1 + 1)
theorem runX_term {o : Oper} {a : Act} {w : World} (x : Operand) (ho : o.op = .load 51 x) (b i : Nat) (hx : a.eval x = .pointer (some ⟨b, i * 3, none⟩)) (d : Int × Int × Int) (hD : w.rangeAt b (i * 3) (termL d)) :
    (execOp a.eval o).run Tryd.prog w = .ok (.value (.agg (termL d).toArray)) w := by
  have h := run_loadAt_mid (P := Tryd.prog) w b (i * 3) 51 (termL d) _ hD Tryd.underlying51 rfl zero_term.2
  unfold execOp
  simp only [ho, hx, Sem.run_bind, h, Result.andThen_ok]
  rfl
set_option maxHeartbeats 1000000 in
set_option maxRecDepth 100000 in
theorem eqTermS_in (v1 v2 : Value) (l : List (Int × Int × Int)) (w : World) (hl : l.length ≤ 1048576) (h1 : InR w v1 termL 3 l) (h2 : InR w v2 termL 3 l) :
    Calls Tryd.prog 11 #[v1, v2] w fun e w' => e = .returned (.bool true) ∧ Below w.heap.size w w' := by
  obtain ⟨o1, cap1, rfl, h1⟩ := h1
  obtain ⟨o2, cap2, rfl, h2⟩ := h2
  rcases Classical.em (l = []) with rfl | hne
  · clear h1 h2
    go_enter Tryd.func11, Tryd.ntmps11
    go_wp2_with fail
    go_loopg [5] 0 (fun g i wr => i = .int .i64 0 ∧ wr = w)
    case atStart => exact ⟨rfl, rfl⟩
    case round =>
      obtain ⟨rfl, rfl⟩ := hrel
      go_wp2
      go_ret
      exact ⟨rfl, Below.refl _ _⟩
  obtain ⟨b1, rfl, hb1, h1⟩ := h1 hne
  obtain ⟨b2, rfl, hb2, h2⟩ := h2 hne
  have H1 := hideT' h1
  have H2 := hideT' h2
  clear h1 h2 hne
  go_enter Tryd.func11, Tryd.ntmps11
  go_wp2_with fail
  go_loopg [5] l.length (fun g i wr => ∃ k : Nat, g = l.length - k ∧ k ≤ l.length ∧ i = .int .i64 (k : Int) ∧ Below w.heap.size w wr)
  case atStart => exact ⟨0, rfl, by omega, rfl, Below.refl _ _⟩
  case round =>
    obtain ⟨k, hg, hk, rfl, hW⟩ := hrel
    by_cases hlt : (k : Int) < (l.length : Int)
    · have hk' : k < l.length := by omega
      obtain ⟨d, hd⟩ : ∃ d, d = l.getD k default := ⟨_, rfl⟩
      have HDM := hideT' hd
      have h1 := H1.out
      have h2 := H2.out
      clear hd
      have hrg : ∀ w', Below w.heap.size w w' → w'.rangeAt b1 (k * 3) (termL d) ∧ w'.rangeAt b2 (k * 3) (termL d) := fun w' hB => by
        refine ⟨fun j u hu => ?_, fun j u hu => ?_⟩
        · rw [hB.cell (p := ⟨b1, k * 3 + j, none⟩) hb1]; rw [HDM.out] at hu; exact h1 k j u hk' hu
        · rw [hB.cell (p := ⟨b2, k * 3 + j, none⟩) hb2]; rw [HDM.out] at hu; exact h2 k j u hk' hu
      have HRG := hideT' hrg
      have hS := hrg wr.drew (Below.drew hW)
      clear h1 h2 hrg
      go_wp2_with fail
      refine held_begin (fun w' => w'.rangeAt b1 (k * 3) (termL d) ∧ w'.rangeAt b2 (k * 3) (termL d)) (by kernel_rfl) ?_
      refine held_val 0 (some 17) rfl rfl (by kernel_rfl) (by kernel_rfl) (by kernel_rfl) noPanic_put rfl (.slice (some ⟨b1, 0, none⟩) l.length cap1) (fun _ => rfl) hS ?_
      simp only [Act.put, List.setIfInBounds_toArray, List.set_cons_zero, List.set_cons_succ]
      refine held_val 1 (some 18) rfl rfl (by kernel_rfl) (by kernel_rfl) (by kernel_rfl) noPanic_put rfl (.int .i64 (k : Int)) (fun _ => rfl) hS ?_
      simp only [Act.put, List.setIfInBounds_toArray, List.set_cons_zero, List.set_cons_succ]
      refine held_val 2 (some 19) rfl rfl (by kernel_rfl) (by kernel_rfl) (by kernel_rfl) noPanic_put rfl (.pointer (some ⟨b1, k * 3, none⟩)) (fun _ => by go_simp) hS ?_
      simp only [Act.put, List.setIfInBounds_toArray, List.set_cons_zero, List.set_cons_succ]
      refine held_valS 3 (some 20) rfl rfl (by kernel_rfl) (by kernel_rfl) (by kernel_rfl) noPanic_put rfl (.agg (termL d).toArray) (fun _ hw' => runX_term _ rfl b1 k rfl d hw'.1) hS ?_
      simp only [Act.put, List.setIfInBounds_toArray, List.set_cons_zero, List.set_cons_succ]
      refine held_val 4 (some 21) rfl rfl (by kernel_rfl) (by kernel_rfl) (by kernel_rfl) noPanic_put rfl (.slice (some ⟨b2, 0, none⟩) l.length cap2) (fun _ => rfl) hS ?_
      simp only [Act.put, List.setIfInBounds_toArray, List.set_cons_zero, List.set_cons_succ]
      refine held_val 5 (some 22) rfl rfl (by kernel_rfl) (by kernel_rfl) (by kernel_rfl) noPanic_put rfl (.int .i64 (k : Int)) (fun _ => rfl) hS ?_
      simp only [Act.put, List.setIfInBounds_toArray, List.set_cons_zero, List.set_cons_succ]
      refine held_val 6 (some 23) rfl rfl (by kernel_rfl) (by kernel_rfl) (by kernel_rfl) noPanic_put rfl (.pointer (some ⟨b2, k * 3, none⟩)) (fun _ => by go_simp) hS ?_
      simp only [Act.put, List.setIfInBounds_toArray, List.set_cons_zero, List.set_cons_succ]
      refine held_valS 7 (some 24) rfl rfl (by kernel_rfl) (by kernel_rfl) (by kernel_rfl) noPanic_put rfl (.agg (termL d).toArray) (fun _ hw' => runX_term _ rfl b2 k rfl d hw'.2) hS ?_
      simp only [Act.put, List.setIfInBounds_toArray, List.set_cons_zero, List.set_cons_succ]
      refine held_call 8 (some 25) (by kernel_rfl) rfl rfl rfl 31 #[.agg (termL d).toArray, .agg (termL d).toArray] (by go_simp) _ (eqTerm_any d wr.drew) ?_
      rintro e w2 ⟨rfl, hW2⟩
      have hW2 : Below wr.heap.size wr w2 := ⟨hW2.os, hW2.tape, hW2.output, hW2.size, hW2.block⟩
      have hW3 := hW.trans (hW2.mono hW.size)
      have hS2 := HRG.out w2 hW3
      refine ⟨_, rfl, hS2, ?_⟩
      simp only [Act.put, List.setIfInBounds_toArray, List.set_cons_zero, List.set_cons_succ]
      refine held_val 9 (some 26) rfl rfl (by kernel_rfl) (by kernel_rfl) (by kernel_rfl) noPanic_put rfl (.bool false) (fun _ => by go_simp) hS2 ?_
      simp only [Act.put, List.setIfInBounds_toArray, List.set_cons_zero, List.set_cons_succ]
      refine wpAnyH_done (by kernel_rfl) ?_ _
      refine NoPanic.normal ?_
      go_wp2
      go_roundg (l.length - (k + 1))
      case measure => omega
      case rel => exact ⟨k + 1, rfl, by omega, by go_num, hW3⟩
    · go_wp2
      go_ret
      exact ⟨rfl, hW⟩
set_option maxHeartbeats 2000000 in
set_option maxRecDepth 100000 in
theorem markTermS_own (v : Value) (n : Nat) (xs0 : List Value) (k : Int) (B : Nat) (w : World) (hk0 : 0 < k) (hk1 : k + 3 * (n : Int) ≤ 1099511627776) (h : w.ownsRow B 51 3 v n xs0) :
    Calls Tryd.prog 14 #[v, .int .i64 k] w fun e w' => e = .returned (.int .i64 (k + 3 * (n : Int))) ∧ OwnR w' B v 51 termL 3 (markL markTerm 3 k n) ∧ w.grownBy w' v.ownBlock := by
  rcases h.2 with ⟨rfl, rfl⟩ | ⟨b, cap, cur, rfl, hB, _⟩
  · have hx : k + 3 * ((0 : Nat) : Int) = k := by simp
    rw [hx]
    clear hx hk1
    go_enter Tryd.func14, Tryd.ntmps14
    go_wp2_with fail
    go_loopg [1, 5] 0 (fun g x i wr => x = .int .i64 k ∧ i = .int .i64 0 ∧ wr = w)
    case atStart => exact ⟨rfl, rfl, rfl⟩
    case round =>
      obtain ⟨rfl, rfl, rfl⟩ := hrel
      go_wp2
      go_ret
      exact ⟨rfl, by simpa [OwnR, markL] using World.ownsRow_nil _ _ _ _, ⟨rfl, rfl, rfl, Nat.le_refl _, fun _ _ _ => rfl⟩⟩
  · obtain ⟨N, hN⟩ : ∃ N : Int, N = k + 3 * (n : Int) := ⟨_, rfl⟩
    have HN := hideT' hN
    have HB := hideT' hk1
    clear hN hk1
    go_enter Tryd.func14, Tryd.ntmps14
    go_wp2_with fail
    go_loopg [1, 5] n (fun g x i wr => ∃ (j : Nat) (y : Int) (xs : List Value), g = n - j ∧ j ≤ n ∧ i = .int .i64 (j : Int) ∧ x = .int .i64 y ∧ 0 < y ∧ y ≤ 1099511627776 ∧ Hid (y = k + 3 * (j : Int)) ∧ wr.ownsRow B 51 3 (.slice (some ⟨b, 0, none⟩) n cap) n xs ∧ Hid (Marked termL markTerm 3 k j xs) ∧ w.grownBy wr (some b))
    case atStart => exact ⟨0, k, xs0, rfl, by omega, rfl, rfl, by omega, by have := HB.out; omega, by simp [Hid], h, (fun j hj => by omega : Marked termL markTerm 3 k 0 xs0), ⟨rfl, rfl, rfl, Nat.le_refl _, fun _ _ _ => rfl⟩⟩
    case round =>
      clear h
      obtain ⟨j, x, xs, hg, hj, rfl, rfl, hx0, hx1, HX, hown, HM, hG⟩ := hrel
      by_cases hlt : (j : Int) < (n : Int)
      · have hj' : j < n := by omega
        have HJ : Hid (j * 3 + 3 ≤ n * 3) := by unfold Hid; omega
        have hx2 : x + 3 ≤ 1099511627776 := by have := HB.out; have := HX.out; omega
        go_wp2_with (first | (refine store_own rfl 3 _ _ rfl rfl b (j * 3) (.int .i64 (x)) rfl rfl size1_int rfl hown (by have := HJ.out; omega) ?_; intro w1 own1 hg1 hs1) | (refine store_own rfl 3 _ _ rfl rfl b (j * 3 + 1) (.int .i64 (x + 1)) rfl rfl size1_int rfl own1 (by have := HJ.out; omega) ?_; intro w2 own2 hg2 hs2) | (refine store_own rfl 3 _ _ rfl rfl b (j * 3 + 2) (.int .i64 (x + 1 + 1)) rfl rfl size1_int rfl own2 (by have := HJ.out; omega) ?_; intro w3 own3 hg3 hs3))
        go_roundg (n - (j + 1))
        case measure => omega
        case rel =>
          have hbb := HB.out
          refine ⟨j + 1, x + 3, _, rfl, by omega, congrArg (Value.int .i64) (by unfold wrap64; omega), congrArg (Value.int .i64) (by omega), by omega, hx2, by have := HX.out; unfold Hid; omega, own3, ?_, (grownX_trans (grownX_trans (grownX_trans hG hg1) hg2) hg3)⟩
          intro i hi q hq
          by_cases e : i = j
          · subst e
            have hxe : k + ((3 : Nat) : Int) * (i : Int) = x := by have := HX.out; omega
            rw [hxe]
            have hl1 := hown.1
            match q, hq with
            | 0, _ => simp [List.getElem?_set, termL, markTerm]; omega
            | 1, _ => simp [List.getElem?_set, termL, markTerm]; omega
            | 2, _ => simp [List.getElem?_set, termL, markTerm]; omega
          · exact (((HM.out.set (j * 3) (.int .i64 (x)) (by omega)).set (j * 3 + 1) (.int .i64 (x + 1)) (by omega)).set (j * 3 + 2) (.int .i64 (x + 1 + 1)) (by omega)) i (by omega) q hq
      · have hjn : j = n := by omega
        subst hjn
        have hxs := HM.out.all termL_len hown.1
        rw [hxs] at hown
        have HO := hideT' hown
        clear hown hxs
        have HXN : Hid (x = N) := by unfold Hid; rw [HX.out, HN.out]
        go_wp2
        go_ret
        refine ⟨by rw [← HN.out, ← HXN.out]; rfl, ?_, hG⟩
        have := HO.out
        unfold OwnR
        rw [markL_len]
        exact this
set_option maxHeartbeats 2000000 in
set_option maxRecDepth 100000 in
theorem heldTermS_in (v : Value) (n : Nat) (k : Int) (w : World) (hk0 : 0 < k) (hk1 : k + 3 * (n : Int) ≤ 1099511627776) (h : InR w v termL 3 (markL markTerm 3 k n)) :
    Calls Tryd.prog 15 #[v, .int .i64 k] w fun e w' => e = .returned (.int .i64 (k + 3 * (n : Int))) ∧ Below w.heap.size w w' := by
  obtain ⟨o, cap, rfl, h⟩ := h
  rw [markL_len]
  rcases Nat.eq_zero_or_pos n with rfl | hn
  · have hx : k + 3 * ((0 : Nat) : Int) = k := by simp
    rw [hx]
    clear hx hk1 h
    go_enter Tryd.func15, Tryd.ntmps15
    go_wp2_with fail
    go_loopg [1, 5] 0 (fun g x i wr => x = .int .i64 k ∧ i = .int .i64 0 ∧ wr = w)
    case atStart => exact ⟨rfl, rfl, rfl⟩
    case round =>
      obtain ⟨rfl, rfl, rfl⟩ := hrel
      go_wp2
      go_ret
      exact ⟨rfl, Below.refl _ _⟩
  obtain ⟨b, rfl, hb, h1⟩ := h (by intro e; have := congrArg List.length e; rw [markL_len] at this; simp at this; omega)
  obtain ⟨N, hN⟩ : ∃ N : Int, N = k + 3 * (n : Int) := ⟨_, rfl⟩
  have HN := hideT' hN
  have HB := hideT' hk1
  have H1 := hideT' h1
  clear hN hk1 h1 h
  go_enter Tryd.func15, Tryd.ntmps15
  go_wp2_with fail
  go_loopg [1, 5] n (fun g x i wr => ∃ (j : Nat) (y : Int), g = n - j ∧ j ≤ n ∧ i = .int .i64 (j : Int) ∧ x = .int .i64 y ∧ 0 < y ∧ y ≤ 1099511627776 ∧ Hid (y = k + 3 * (j : Int)) ∧ Below w.heap.size w wr)
  case atStart => exact ⟨0, k, rfl, by omega, rfl, rfl, by omega, by have := HB.out; omega, by simp [Hid], Below.refl _ _⟩
  case round =>
    obtain ⟨j, x, hg, hj, rfl, rfl, hx0, hx1, HX, hW⟩ := hrel
    by_cases hlt : (j : Int) < (n : Int)
    · have hj' : j < n := by omega
      have hx2 : x + 3 ≤ 1099511627776 := by have := HB.out; have := HX.out; omega
      have hxe : k + ((3 : Nat) : Int) * (j : Int) = x := by have := HX.out; omega
      have hcell : ∀ q u, (termL (markTerm x))[q]? = some u → wr.cell? ⟨b, j * 3 + q, none⟩ = some u := fun q u hu => by
        have := H1.out j q u (by rw [markL_len]; exact hj') (by rw [markL_get markTerm 3 k n j hj', hxe]; exact hu)
        exact (hW.cell (p := ⟨b, j * 3 + q, none⟩) hb).trans this
      have c0 := hcell 0 (.int .i64 (x)) rfl
      have c1 := hcell 1 (.int .i64 (x + 1)) rfl
      have c2 := hcell 2 (.int .i64 (x + 1 + 1)) rfl
      rw [Nat.add_zero] at c0
      have HC := hideT' hcell
      clear hcell hxe
      go_wp2
      go_roundg (n - (j + 1))
      case measure => omega
      case rel =>
        have hbb := HB.out
        exact ⟨j + 1, x + 3, rfl, by omega, congrArg (Value.int .i64) (by unfold wrap64; omega), congrArg (Value.int .i64) (by omega), by omega, hx2, by have := HX.out; unfold Hid; omega, hW⟩
    · have hjn : j = n := by omega
      have HXN : Hid (x = N) := by unfold Hid; rw [HX.out, HN.out, hjn]
      go_wp2
      go_ret
      exact ⟨by rw [← HN.out, ← HXN.out]; rfl, hW⟩
end Go.Proofs.YtgolfbjfopoeeaaDoor
