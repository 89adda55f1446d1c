/-
  The texts SpecTold, Told, NumAll, TxtMath, CbTxtMath, TxtRead, CbTxtRead, CbSpecLc, CbLcOut, SpecLc, LcOut, SpecRd, SpecRdB, SpecRdC, one behind the other, as one.
-/
import Derived.Test.YtgolfbjfopoeeaaDoorTailReadCombB
import Derived.Test.YtgolfbjfopoeeaaDoorDec
import Derived.Test.YtgolfbjfopoeeaaDoorNum
import Derived.Lib.ItoaNum
import Derived.Test.YtgolfbjfopoeeaaDoorAtoiX
import Derived.Test.YtgolfbjfopoeeaaDoorTailReadCombA
import Derived.Test.YtgolfbjfopoeeaaDoorPkGood

/-
  What lcFlat and lcTold of the model answer.
-/
namespace Go.Proofs.YtgolfbjfopoeeaaDoor
open Go.RowKit BL
set_option linter.unusedVariables false

/-- The nodes of a tree behind others, as the model lays them: no more than are too many. -/
def flatC : List Nd → Lm → Int → List Nd
  | l, .var n, up => l ++ [⟨1, n, up⟩]
  | l, .lam t, up => if (l ++ [(⟨2, 0, up⟩ : Nd)]).length ≤ 150 then flatC (l ++ [⟨2, 0, up⟩]) t (l.length : Int) else l ++ [⟨2, 0, up⟩]
  | l, .app s t, up =>
    if (if (l ++ [(⟨3, 0, up⟩ : Nd)]).length ≤ 150 then flatC (l ++ [⟨3, 0, up⟩]) s (l.length : Int) else l ++ [⟨3, 0, up⟩]).length ≤ 150
    then flatC (if (l ++ [(⟨3, 0, up⟩ : Nd)]).length ≤ 150 then flatC (l ++ [⟨3, 0, up⟩]) s (l.length : Int) else l ++ [⟨3, 0, up⟩]) t (l.length : Int)
    else if (l ++ [(⟨3, 0, up⟩ : Nd)]).length ≤ 150 then flatC (l ++ [⟨3, 0, up⟩]) s (l.length : Int) else l ++ [⟨3, 0, up⟩]
/-- One part more. -/
def partC (k : Int) (l : List Nd) (s : Lm) : List Nd := if l.length ≤ 150 then flatC l s k else l
theorem flatC_kids (l : List Nd) (t : Lm) (up : Int) : flatC l t up = t.kids.foldl (partC (l.length : Int)) (l ++ [⟨t.kd, t.nm, up⟩]) := by
  cases t <;> rfl
theorem flatC_spec : ∀ (t : Lm) (l : List Nd) (up : Int), l.length ≤ 150 → (l.length + t.sz ≤ 150 → flatC l t up = l ++ t.flat l.length up) ∧ (150 < l.length + t.sz → 150 < (flatC l t up).length) ∧ (flatC l t up).length ≤ 151
  | .var n, l, up, h => by
    refine ⟨fun _ => rfl, fun h2 => ?_, ?_⟩
    · simp only [flatC, List.length_append, List.length_singleton, Lm.sz] at h2 ⊢; omega
    · simp only [flatC, List.length_append, List.length_singleton]; omega
  | .lam t, l, up, h => by
    have hl : (l ++ [(⟨2, 0, up⟩ : Nd)]).length = l.length + 1 := by simp
    have := t.sz_pos
    by_cases h1 : l.length + 1 ≤ 150
    · have ih := flatC_spec t (l ++ [⟨2, 0, up⟩]) (l.length : Int) (by omega)
      rw [hl] at ih
      have e : flatC l (.lam t) up = flatC (l ++ [⟨2, 0, up⟩]) t (l.length : Int) := by rw [flatC, if_pos (by omega)]
      rw [e]
      refine ⟨fun h2 => ?_, fun h2 => ih.2.1 (by simp only [Lm.sz] at h2; omega), ih.2.2⟩
      rw [ih.1 (by simp only [Lm.sz] at h2; omega), Lm.flat]
      simp
    · have e : flatC l (.lam t) up = l ++ [⟨2, 0, up⟩] := by rw [flatC, if_neg (by omega)]
      rw [e, hl]
      refine ⟨fun h2 => ?_, fun _ => by omega, by omega⟩
      simp only [Lm.sz] at h2; omega
  | .app s t, l, up, h => by
    have hl : (l ++ [(⟨3, 0, up⟩ : Nd)]).length = l.length + 1 := by simp
    have := s.sz_pos
    have := t.sz_pos
    by_cases h1 : l.length + 1 ≤ 150
    · have ih := flatC_spec s (l ++ [⟨3, 0, up⟩]) (l.length : Int) (by omega)
      rw [hl] at ih
      obtain ⟨m, hm⟩ : ∃ m, m = flatC (l ++ [⟨3, 0, up⟩]) s (l.length : Int) := ⟨_, rfl⟩
      have e : flatC l (.app s t) up = if m.length ≤ 150 then flatC m t (l.length : Int) else m := by rw [flatC, if_pos (show (l ++ [(⟨3, 0, up⟩ : Nd)]).length ≤ 150 by omega), ← hm]
      rw [← hm] at ih
      rw [e]
      by_cases h2 : m.length ≤ 150
      · rw [if_pos h2]
        have hfit : l.length + 1 + s.sz ≤ 150 := by
          rcases Nat.lt_or_ge 150 (l.length + 1 + s.sz) with h3 | h3
          · have := ih.2.1 h3; omega
          · omega
        have hme := ih.1 hfit
        have hml : m.length = l.length + 1 + s.sz := by rw [hme, List.length_append, hl, Lm.flat_sz]
        have ih2 := flatC_spec t m (l.length : Int) h2
        refine ⟨fun h3 => ?_, fun h3 => ih2.2.1 (by simp only [Lm.sz] at h3; omega), ih2.2.2⟩
        rw [ih2.1 (by simp only [Lm.sz] at h3; omega), Lm.flat, hml, hme]
        simp
      · rw [if_neg h2]
        refine ⟨fun h3 => ?_, fun _ => by omega, ih.2.2⟩
        exfalso
        simp only [Lm.sz] at h3
        have := ih.1 (by omega)
        rw [this, List.length_append, hl, Lm.flat_sz] at h2
        omega
    · have e : flatC l (.app s t) up = l ++ [⟨3, 0, up⟩] := by rw [flatC, if_neg (show ¬ (l ++ [(⟨3, 0, up⟩ : Nd)]).length ≤ 150 by omega), if_neg (by omega)]
      rw [e, hl]
      refine ⟨fun h2 => ?_, fun _ => by omega, by omega⟩
      simp only [Lm.sz] at h2; omega
theorem goodS_flatC (t : Lm) : goodS (flatC [] t (-1)) = t.good := by
  have h := flatC_spec t [] (-1) (by simp)
  simp only [List.length_nil, Nat.zero_add, List.nil_append] at h
  rcases Nat.lt_or_ge 150 t.sz with h1 | h1
  · have h2 := h.2.1 h1
    rw [goodS_short (by simp; omega)]
    unfold Lm.good
    rw [decide_eq_false (show ¬ t.sz ≤ 150 by omega)]; simp
  · rw [h.1 h1]; exact goodS_flat t
/-- The same as the program tells. -/
theorem flatC_told (t : Lm) (h : t.good = true) : flatC [] t (-1) = t.flat 0 (-1) := by
  have h1 := flatC_spec t [] (-1) (by simp)
  simp only [List.length_nil, Nat.zero_add, List.nil_append] at h1
  exact h1.1 (Lm.good_sz h).1
theorem partC_len {k : Int} {l : List Nd} {s : Lm} (h : l.length ≤ 151) : (partC k l s).length ≤ 151 := by
  unfold partC
  split
  · next h1 => exact (flatC_spec s l k h1).2.2
  · exact h

/-- What lcFlat does: the row stays the caller's own, all else but new memory stays. -/
def FlatC (N : Nat) : Prop := ∀ (t : Lm), t.sz ≤ N → ∀ (l : List Nd) (v : Value) (up : Int) (z : Value) (P : Nat → Prop) (B : Nat) (w : World), l.length ≤ 150 → B ≤ w.heap.size → OwnR w B v 51 termL 3 (tri l) → LcIn w P t z → (∀ b, P b → v.ownBlock ≠ some b) →
    Calls Tryd.prog 56 #[v, .agg (lcC t.kd t.nm z), .int .i64 up] w fun e w' => (∃ u, e = .returned u ∧ OwnR w' B u 51 termL 3 (tri (flatC l t up)) ∧ (∀ b, u.ownBlock = some b → v.ownBlock = some b ∨ w.heap.size ≤ b)) ∧ w.grownBy w' v.ownBlock
theorem tri_app (a b : List Nd) : tri (a ++ b) = tri a ++ tri b := by simp [tri]

set_option maxHeartbeats 8000000 in
set_option maxRecDepth 100000 in
theorem lcFlat_step (N : Nat) (IH : ∀ n, n < N → FlatC n) : FlatC N := by
  intro t ht l v up z P B w hl hBw hv hz hPv
  have HIH := hideT' IH
  have HTN := hideT' ht
  obtain ⟨ov, cv, hvv⟩ := own_formT hv
  rw [tri_len] at hvv
  subst hvv
  obtain ⟨oz, cz, hzz, _⟩ := hz.parts
  have HPV := hideT' hPv
  have HZ := hideT' hz
  obtain ⟨m, hm⟩ : ∃ m, m = t.kids.length := ⟨_, rfl⟩
  have hm2 : m ≤ 2 := by rw [hm]; cases t <;> simp [Lm.kids]
  rw [← hm] at hzz
  subst hzz
  have HM := hideT' hm
  obtain ⟨kd, hkd⟩ : ∃ kd, kd = t.kd := ⟨_, rfl⟩
  obtain ⟨nm, hnm⟩ : ∃ nm, nm = t.nm := ⟨_, rfl⟩
  rw [← hkd, ← hnm]
  have HKN := hideT' (And.intro hkd hnm)
  have HV : Hid (w.ownsRow B 51 3 (.slice ov l.length cv) l.length ((tri l).flatMap termL)) := by unfold Hid; have := hv; unfold OwnR at this; rw [tri_len] at this; exact this
  obtain ⟨n, hn⟩ : ∃ n, n = l.length := ⟨_, rfl⟩
  have HNN := hideT' hn
  rw [← hn] at hl HV HPV ⊢
  clear IH ht hv hz hPv hm hkd hnm hn
  have hz0 := zero_lcT.1
  have hzt := zero_term.1
  obtain ⟨i0, hi, hzz0, hzz1, hzz2⟩ := info_parts info_term
  show Calls Tryd.prog 56 #[.slice ov n cv, .agg #[.int .i64 kd, .int .i64 nm, .slice oz m cz], .int .i64 up] w _
  have HTC : Hid (∀ j u, (termL (kd, nm, up))[j]? = some u → ((w.alloc (.cells #[.int .i64 kd, .int .i64 nm, .slice oz m cz] 48)).alloc (.cells #[.int .i64 kd, .int .i64 nm, .int .i64 up] 51)).cell? ((⟨w.heap.size + 1, 0, none⟩ : Addr).add j) = some u) := by
    have := term_cells (w.alloc (.cells #[.int .i64 kd, .int .i64 nm, .slice oz m cz] 48)) (kd, nm, up)
    rw [World.size_alloc] at this
    exact this
  have HRT : Hid (RowAt ((w.alloc (.cells #[.int .i64 kd, .int .i64 nm, .slice oz m cz] 48)).alloc (.cells #[.int .i64 kd, .int .i64 nm, .int .i64 up] 51)) w.heap.size 48 #[.int .i64 kd, .int .i64 nm, .slice oz m cz]) := RowAt.old (RowAt.new _ _ _) _
  have HBA : Hid (Below w.heap.size w ((w.alloc (.cells #[.int .i64 kd, .int .i64 nm, .slice oz m cz] 48)).alloc (.cells #[.int .i64 kd, .int .i64 nm, .int .i64 up] 51))) := ((Below.refl _ _).alloc (Nat.le_refl _) _).alloc (by simp) _
  have HOB : Hid (∀ b, (Value.slice ov n cv).ownBlock = some b → B ≤ b ∧ b < w.heap.size) := fun b hb => HV.out.lt b hb
  go_enter Tryd.func56, Tryd.ntmps56
  go_wp2_with (at_builtin; refine append_own3 _ rfl _ _ 26 rfl B 51 i0 (.agg #[.int .i64 0, .int .i64 0, .int .i64 0]) 3 24 Tryd.underlying26 hi hzz0 hzz1 hzz2 rfl (by decide) (.slice ov n cv) n _ rfl ((HV.out.alloc _).alloc _) ⟨w.heap.size + 1, 0, none⟩ 1 1 (termL (kd, nm, up)) rfl rfl HTC.out (termL_one _) (by omega) (by unfold maxLen; omega) (by omega) (by simp; omega) ?_; intro v6 w6 hv6 hg6 hb6; obtain ⟨o6, c6, rfl⟩ := own_formT hv6; have f2 : w6.cell? ⟨w.heap.size, 2, none⟩ = some (.slice oz m cz) := (by rw [cell_of_row _ _ _ _ _ _ (HRT.out.grown hg6 (fun e => by have := (HOB.out _ e.symm).2; omega))]; rfl); have HV6 := hideT' hv6; have HG6 := hideT' hg6; have HB6 := hideT' hb6; clear hv6 hg6 hb6)
  have HS0 : Hid (∃ cur, cur = l ++ [⟨kd, nm, up⟩] ∧ OwnR w6 B (.slice o6 (n + 1) c6) 51 termL 3 (tri cur) ∧ (∀ b, (Value.slice o6 (n + 1) c6).ownBlock = some b → (Value.slice ov n cv).ownBlock = some b ∨ w.heap.size ≤ b) ∧ w.grownBy w6 (Value.slice ov n cv).ownBlock) := by
    refine ⟨_, rfl, ?_, fun b hb => ?_, ?_⟩
    · unfold OwnR
      rw [tri_app, List.length_append, List.flatMap_append, tri_len, ← HNN.out]
      exact HV6.out
    · rcases HB6.out with h | h
      · exact .inl (by rw [← h]; exact hb)
      · rw [h] at hb
        injection hb with hb
        simp at hb
        exact .inr (by omega)
    · have hsz := HG6.out.size
      exact ⟨HG6.out.os.trans HBA.out.os, HG6.out.tape.trans HBA.out.tape, HG6.out.output.trans HBA.out.output, by simp at hsz; omega, fun k hk hne => by rw [HG6.out.block k (by simp; omega) hne]; exact HBA.out.block k hk⟩
  go_loopg [0, 24] m (fun gg xv i wr => ∃ (As Bs : List Lm) (cur : List Nd) (ox : Option Addr) (cx k : Nat), gg = Bs.length ∧ Hid (t.kids = As ++ Bs) ∧ i = .int .i64 (As.length : Int) ∧ xv = .slice ox k cx ∧ k ≤ 151 ∧ Hid (k = cur.length ∧ cur = As.foldl (partC (n : Int)) (l ++ [⟨kd, nm, up⟩]) ∧ OwnR wr B (.slice ox k cx) 51 termL 3 (tri cur) ∧ (∀ b, (Value.slice ox k cx).ownBlock = some b → (Value.slice ov n cv).ownBlock = some b ∨ w.heap.size ≤ b) ∧ w.grownBy wr (Value.slice ov n cv).ownBlock))
  case atStart =>
    obtain ⟨cur, e1, e2, e3, e4⟩ := HS0.out
    exact ⟨[], t.kids, cur, o6, c6, n + 1, by rw [HM.out], rfl, rfl, rfl, by omega, ⟨by rw [e1, List.length_append, ← HNN.out]; rfl, e1, e2, e3, e4⟩⟩
  case round =>
    obtain ⟨As, Bs, cur, ox, cx, k, hgg, HA, rfl, rfl, hk151, HS⟩ := hrel
    obtain ⟨j, hj⟩ : ∃ j, j = As.length := ⟨_, rfl⟩
    rw [← hj]
    have HJ := hideT' hj
    clear hj
    cases Bs with
    | nil =>
      have hjm : j = m := by rw [HJ.out, HM.out, HA.out]; simp
      have hnl : ¬ (j : Int) < (m : Int) := by omega
      clear hgg hjm
      go_wp2
      go_ret
      obtain ⟨hk, hc, h1, h2, h3⟩ := HS.out
      refine ⟨⟨_, rfl, ?_, h2⟩, h3⟩
      have e : flatC l t up = cur := by rw [flatC_kids, HA.out, List.append_nil, hc, ← HNN.out, HKN.out.1, HKN.out.2]
      rw [e]; exact h1
    | cons T Bs =>
      have hil : (j : Int) < (m : Int) := by rw [HM.out, HA.out, List.length_append, ← HJ.out]; simp; omega
      have hkj : t.kids[j]? = some T := by rw [HA.out, HJ.out]; simp
      obtain ⟨hk, hcu, hOx, hbx, hgw⟩ := HS.out
      have hzr : LcIn wr (fun b => P b ∧ b < w.heap.size) t (.slice oz m cz) := LcIn.keep (w := w) hgw.size (fun x hx hl => hgw.block x hl (fun e => HPV.out x hx e.symm)) (fun x hx hl => ⟨hx, hl⟩) HZ.out
      obtain ⟨o', c', e', hpart⟩ := hzr.parts
      cases e'
      obtain ⟨g, z1, hoz, hg, ⟨c0, c1, c2⟩, hz1⟩ := hpart j T hkj
      subst hoz
      have hg1 := hg.1
      obtain ⟨oz1, cz1, hzz1'⟩ := hz1.form
      subst hzz1'
      have hTs := Lm.kids_lt (List.mem_of_getElem? hkj)
      obtain ⟨W2, hW2⟩ : ∃ W2, W2 = wr.alloc (.cells #[.int .i64 T.kd, .int .i64 T.nm, .slice oz1 T.kids.length cz1] 48) := ⟨_, rfl⟩
      have hB2 : Below wr.heap.size wr W2 := by rw [hW2]; exact (Below.refl _ _).alloc (Nat.le_refl _) _
      have hws := hgw.size
      have hO2 : OwnR W2 B (.slice ox k cx) 51 termL 3 (tri cur) := OwnR.below hOx hB2 (Nat.le_refl _)
      have hz2 : LcIn W2 (fun b => P b ∧ b < w.heap.size) T (.slice oz1 T.kids.length cz1) := LcIn.below hB2 hz1
      by_cases hle : k ≤ 150
      · have HCALL := hideT' (HIH.out T.sz (by have := HTN.out; omega) T (Nat.le_refl _) cur (.slice ox k cx) (n : Int) _ _ B W2 (by omega) (by have := hB2.size; omega) hO2 hz2 (fun b hb e => by rcases hbx b e with h | h; exact HPV.out b hb.1 h; omega))
        have HCU : Hid (partC (n : Int) cur T = flatC cur T (n : Int)) := by unfold Hid partC; rw [if_pos (by omega)]
        have HKL : Hid ((flatC cur T (n : Int)).length ≤ 151) := (flatC_spec T cur (n : Int) (by omega)).2.2
        have hki : (k : Int) ≤ 150 := by omega
        have HS2 := hideT' (And.intro hk (And.intro hcu (And.intro hbx (And.intro hgw hB2))))
        clear hk hcu hOx hbx hgw hzr hpart hz1 hO2 hz2 hB2 hkj HS
        unfold lcC at HCALL
        go_wp2_with fail
        rw [← hW2]
        refine HCALL.out.mono ?_
        rintro e w9 ⟨⟨u, rfl, hO9, hb9⟩, hg9⟩
        obtain ⟨hk, hcu, hbx, hgw, hB2⟩ := HS2.out
        have hs2 : W2.heap.size = wr.heap.size + 1 := by rw [hW2]; simp
        obtain ⟨o9, c9, he9⟩ := own_formT hO9
        rw [tri_len] at he9
        subst he9
        obtain ⟨k9, hk9⟩ : ∃ k9, k9 = (flatC cur T (n : Int)).length := ⟨_, rfl⟩
        have hk9l : k9 ≤ 151 := by rw [hk9]; exact HKL.out
        rw [← hk9] at hO9 hb9 ⊢
        have HEND : Hid (k9 = (flatC cur T (n : Int)).length ∧ flatC cur T (n : Int) = (As ++ [T]).foldl (partC (n : Int)) (l ++ [⟨kd, nm, up⟩]) ∧ OwnR w9 B (.slice o9 k9 c9) 51 termL 3 (tri (flatC cur T (n : Int))) ∧ (∀ b, (Value.slice o9 k9 c9).ownBlock = some b → (Value.slice ov n cv).ownBlock = some b ∨ w.heap.size ≤ b) ∧ w.grownBy w9 (Value.slice ov n cv).ownBlock) := by
          refine ⟨hk9, by rw [List.foldl_append, ← hcu]; exact HCU.out.symm, hO9, fun b hb => ?_, ?_⟩
          · rcases hb9 b hb with h | h
            · exact hbx b h
            · exact .inr (by omega)
          · refine ⟨hg9.os.trans (hB2.os.trans hgw.os), hg9.tape.trans (hB2.tape.trans hgw.tape), hg9.output.trans (hB2.output.trans hgw.output), by have := hg9.size; omega, fun b hb hne => ?_⟩
            rw [hg9.block b (by omega) (fun e => by rcases hbx b e.symm with h | h; exact hne h.symm; omega), hB2.block b (by omega)]
            exact hgw.block b hb hne
        have HA2 : Hid (t.kids = (As ++ [T]) ++ Bs) := by unfold Hid; rw [HA.out]; simp
        clear hk hcu hbx hgw hB2 hO9 hb9 hg9 hW2 hk9
        go_wp2
        go_roundg Bs.length
        case measure => first | omega | (rw [hgg]; simp)
        case rel => exact ⟨As ++ [T], Bs, flatC cur T (n : Int), o9, c9, k9, rfl, HA2, by rw [List.length_append, ← HJ.out]; go_num, rfl, hk9l, HEND⟩
      · have HCU : Hid (partC (n : Int) cur T = cur) := by unfold Hid partC; rw [if_neg (by omega)]
        have hki : ¬ (k : Int) ≤ 150 := by omega
        have HEND : Hid (k = cur.length ∧ cur = (As ++ [T]).foldl (partC (n : Int)) (l ++ [⟨kd, nm, up⟩]) ∧ OwnR W2 B (.slice ox k cx) 51 termL 3 (tri cur) ∧ (∀ b, (Value.slice ox k cx).ownBlock = some b → (Value.slice ov n cv).ownBlock = some b ∨ w.heap.size ≤ b) ∧ w.grownBy W2 (Value.slice ov n cv).ownBlock) := by
          refine ⟨hk, by rw [List.foldl_append, ← hcu]; exact HCU.out.symm, hO2, hbx, ⟨hB2.os.trans hgw.os, hB2.tape.trans hgw.tape, hB2.output.trans hgw.output, by have := hB2.size; omega, fun b hb hne => by rw [hB2.block b (by omega)]; exact hgw.block b hb hne⟩⟩
        have HA2 : Hid (t.kids = (As ++ [T]) ++ Bs) := by unfold Hid; rw [HA.out]; simp
        clear hk hcu hOx hbx hgw hzr hpart hz1 hO2 hz2 hB2 hkj HS
        go_wp2
        rw [← hW2]
        go_roundg Bs.length
        case measure => first | omega | (rw [hgg]; simp)
        case rel => exact ⟨As ++ [T], Bs, cur, ox, cx, k, rfl, HA2, by rw [List.length_append, ← HJ.out]; go_num, rfl, hk151, HEND⟩
theorem lcFlat_all : ∀ N, FlatC N := by
  intro N
  induction N using Nat.strongRecOn with
  | _ N IH => exact lcFlat_step N IH
set_option maxHeartbeats 2000000 in
/-- What lcTold answers: as tellTree. -/
theorem lcTold_any (t : Lm) (z : Value) (P : Nat → Prop) (w : World) (hz : LcIn w P t z) :
    Calls Tryd.prog 33 #[.agg (lcC t.kd t.nm z)] w fun e w' => ToldT w t e w' ∧ Below w.heap.size w w' := by
  obtain ⟨oz, cz, hzz⟩ := hz.form
  subst hzz
  have hB1 : Below w.heap.size w (w.alloc (.cells #[.int .i64 t.kd, .int .i64 t.nm, .slice oz t.kids.length cz] 48)) := (Below.refl _ _).alloc (Nat.le_refl _) _
  have HB1 := hideT' hB1
  have HC := hideT' (lcFlat_all t.sz t (Nat.le_refl _) [] (.slice none 0 0) (-1) (.slice oz t.kids.length cz) P w.heap.size (w.alloc (.cells #[.int .i64 t.kd, .int .i64 t.nm, .slice oz t.kids.length cz] 48)) (by simp) hB1.size (World.ownsRow_nil _ _ _ _) (LcIn.below hB1 hz) (fun b _ e => by simp [Value.ownBlock] at e))
  have HFL : Hid ((flatC [] t (-1)).length ≤ 151) := (flatC_spec t [] (-1) (by simp)).2.2
  clear hz hB1
  unfold lcC at HC ⊢
  go_enter Tryd.func33, Tryd.ntmps33
  go_wp2_with fail
  refine HC.out.mono ?_
  rintro e w2 ⟨⟨u, rfl, hO, _⟩, hg2⟩
  have hB2 : Below w.heap.size w w2 := HB1.out.grown hg2 HB1.out.size (fun k e => by simp [Value.ownBlock] at e)
  have HG := hideT' (specGoodTerm_any (flatC [] t (-1)) u w2 (OwnR.inR hO termL_len) (by have := HFL.out; omega))
  obtain ⟨r, hr⟩ : ∃ r, r = t.good := ⟨_, rfl⟩
  rw [goodS_flatC, ← hr] at HG
  have HR := hideT' hr
  have HO := hideT' hO
  have HB2 := hideT' hB2
  clear hr hO hB2 hg2
  go_wp2_with fail
  refine HG.out.mono ?_
  rintro e w3 ⟨rfl, hB3⟩
  have HB3 : Hid (Below w.heap.size w w3) := HB2.out.trans (hB3.mono HB2.out.size)
  have HO3 := hideT' (OwnR.below (l := tri (flatC [] t (-1))) HO.out hB3 (Nat.le_refl _))
  clear hB3
  cases r with
  | false =>
    go_wp2
    go_ret2
    exact ⟨⟨.slice none 0 0, by rw [← HR.out]; rfl, by rw [← HR.out]; exact World.ownsRow_nil _ _ _ _⟩, HB3.out⟩
  | true =>
    go_wp2
    go_ret2
    refine ⟨⟨u, by rw [← HR.out]; rfl, ?_⟩, HB3.out⟩
    rw [← HR.out, if_pos rfl, ← flatC_told t HR.out.symm]
    exact HO3.out
end Go.Proofs.YtgolfbjfopoeeaaDoor

/-
  What is told of a term that may be none: the answers of functions that give a term and whether it is good.
-/
namespace Go.Proofs.YtgolfbjfopoeeaaDoor
open Go.RowKit BL
set_option linter.unusedVariables false

def toldB : Option Lm → Bool
  | none => false
  | some t => t.good
def toldL : Option Lm → List (Int × Int × Int)
  | none => []
  | some t => if t.good then tri (t.flat 0 (-1)) else []
theorem toldL_len (o : Option Lm) : (toldL o).length ≤ 1048576 := by
  cases o with
  | none => simp [toldL]
  | some t =>
    unfold toldL
    simp only
    split
    · next h => rw [tri_len, Lm.flat_sz]; have := (Lm.good_sz h).1; omega
    · simp
def TOut (w : World) (o : Option Lm) (e : Ending) (w' : World) : Prop := ∃ u, e = .returned (.tuple #[u, .bool (toldB o)]) ∧ OwnR w' w.heap.size u 51 termL 3 (toldL o)
theorem TOut.no {w w' : World} : TOut w none (.returned (.tuple #[.slice none 0 0, .bool false])) w' := ⟨_, rfl, World.ownsRow_nil _ _ _ _⟩
theorem TOut.bad {w w' : World} {o : Option Lm} (h : o = none) : TOut w o (.returned (.tuple #[.slice none 0 0, .bool false])) w' := by subst h; exact TOut.no
theorem ToldT.out {w w1 w' : World} {t : Lm} {e : Ending} {o : Option Lm} (h : ToldT w1 t e w') (hs : w.heap.size ≤ w1.heap.size) (ho : o = some t) : TOut w o e w' := by
  subst ho
  obtain ⟨u, he, hO⟩ := h
  exact ⟨u, he, ⟨hO.1, hO.2.imp id fun ⟨g, cap, cur, h1, h2, h3⟩ => ⟨g, cap, cur, h1, Nat.le_trans hs h2, h3⟩⟩⟩
/-- A told answer's parts. -/
theorem ToldT.parts {w w' : World} {t : Lm} {e : Ending} (h : ToldT w t e w') : ∃ u, e = .returned (.tuple #[u, .bool t.good]) ∧ OwnR w' w.heap.size u 51 termL 3 (toldL (some t)) := h
theorem readP'_facts {l : List Nd} {t : Lm} (h : readP' l = some t) : l = t.flat 0 (-1) ∧ t.sz ≤ 150 ∧ t.dp ≤ 40 ∧ t.ok = true ∧ t.good = true := by
  have h1 := (readP'_iff l t).1 h
  have h2 := Lm.good_sz h1.2
  exact ⟨h1.1, h2.1, h2.2.1, h2.2.2, h1.2⟩
theorem goodS_none {l : List Nd} (h : readP' l = none) : goodS l = false := by rw [goodS_read, h]; rfl
theorem goodS_some {l : List Nd} {t : Lm} (h : readP' l = some t) : goodS l = true := by rw [goodS_read, h]; rfl
/-- lcTree of a whole good row. -/
theorem lcTree_whole (l : List Nd) (t : Lm) (v : Value) (w : World) (hv : NdIn w v l) (h : readP' l = some t) :
    Calls Tryd.prog 27 #[v, .int .i64 0] w fun e w' => (∃ z, e = .returned (.agg (lcC t.kd t.nm z)) ∧ LcIn w' (fun x => w.heap.size ≤ x) t z) ∧ Below w.heap.size w w' := by
  obtain ⟨h1, h2, _⟩ := readP'_facts h
  exact lcTree_all t.sz t (Nat.le_refl _) l 0 (-1) v w (by rw [h1, Lm.flat_sz]; exact h2) hv (by rw [h1]; exact Seg.whole t) (fun i h3 h4 => by rw [h1, Lm.flat_sz] at h4; omega)
end Go.Proofs.YtgolfbjfopoeeaaDoor

/-
  What spec.l1Num answers for every int: its text.
-/
namespace Go.Proofs.YtgolfbjfopoeeaaDoor
open Go.RowKit
set_option linter.unusedVariables false

/-- Two canonical texts of one number are one. -/
theorem canon_dec {s : ByteArray} {n : Nat} (hc : canonB s.data.toList = true) (hv : dval s.data.toList = n) : s = ⟨(Lib.decDigits n).toArray⟩ := by
  have hd := dec_canon n
  have := canon_inj hc hd.1 (by rw [hv, hd.2])
  apply ByteArray.ext
  rw [← this]
theorem num_size_all {s : ByteArray} {n : Nat} (hc : canonB s.data.toList = true) (hv : dval s.data.toList = n) (hn : n ≤ 9223372036854775807) : (s.size : Int) ≤ 19 := by
  have := (canon_len_le hc 19 (by omega)).2 (by rw [hv]; omega)
  have e : s.data.toList.length = s.size := by simp
  omega

set_option maxHeartbeats 400000 in
set_option maxRecDepth 100000 in
theorem l1NumNat_any (n : Nat) (hn : n ≤ 9223372036854775807) : ∀ w : World,
    Calls Tryd.prog 49 #[.int .i64 (n : Int)] w fun e w' => ∃ s : ByteArray, e = .returned (.string s) ∧ canonB s.data.toList = true ∧ dval s.data.toList = n ∧ Below w.heap.size w w' := by
  induction n using Nat.strongRecOn with
  | _ n ih =>
    intro w
    by_cases h10 : n < 10
    · refine (l1Num_small n w h10).mono ?_
      rintro e w' ⟨rfl, hW⟩
      have := db_dig n h10
      exact ⟨_, rfl, by simp [canonB, this.1], by simp [dval, this.2], hW⟩
    · have IH := ih (n / 10) (by omega) (by omega)
      obtain ⟨d, hd⟩ : ∃ d : Nat, d = n % 10 := ⟨_, rfl⟩
      obtain ⟨q, hq⟩ : ∃ q : Int, q = ((n / 10 : Nat) : Int) := ⟨_, rfl⟩
      obtain ⟨x, hx⟩ : ∃ x : Int, x = (n : Int) := ⟨_, rfl⟩
      have hd10 : d < 10 := by omega
      have hrem : x % 10 = (d : Int) := by omega
      have hquo : x / 10 = q := by omega
      have h0 : 0 ≤ x := by omega
      have h1 : 10 ≤ x := by omega
      have h2 : x ≤ 9223372036854775807 := by omega
      have htd : x.tdiv 10 = q := by rw [Int.tdiv_eq_ediv_of_nonneg h0]; omega
      have htm : x.tmod 10 = (d : Int) := by rw [Int.tmod_eq_emod_of_nonneg h0]; omega
      have hw1 : IntKind.i64.wrap q = q := by rw [IntKind.wrap_i64]; omega
      have hw2 : IntKind.i64.wrap (48 + (d : Int)) = 48 + (d : Int) := by rw [IntKind.wrap_i64]; omega
      have hw3 : IntKind.u8.wrap (48 + (d : Int)) = 48 + (d : Int) := by
        have : IntKind.u8.wrap (48 + (d : Int)) = (48 + (d : Int)) % 256 := by simp [IntKind.wrap, IntKind.signed, IntKind.bits]
        rw [this]; omega
      have hcv := fun (W : World) (b : Nat) => conv_at W b d hd10
      rw [← hq] at IH
      rw [← hx]
      have IH' : Hid (∀ w : World, Calls Tryd.prog 49 #[.int .i64 q] w fun e w' => ∃ s : ByteArray, e = .returned (.string s) ∧ canonB s.data.toList = true ∧ dval s.data.toList = n / 10 ∧ Below w.heap.size w w') := IH
      have HD : Hid (d = n % 10 ∧ ¬ n < 10) := ⟨hd, h10⟩
      have HN : Hid (n / 10 ≤ 9223372036854775807) := by unfold Hid; omega
      clear IH ih hd hn hq hx h10 h2 hquo hrem
      go_enter Tryd.func49, Tryd.ntmps49
      go_wp2_with fail
      go_region_with ((go_at_call 49; refine (IH'.out _).mono ?_; rintro e w1 ⟨s, rfl, hsc, hsv, hW1⟩; have hcl := fun (b o : Nat) h => hW1.cell (p := ⟨b, o, none⟩) h; have hWs := hW1.size; have hsl := num_size_all hsc hsv HN.out; have HS := hide2 hsc hsv; clear hsc hsv))
      all_goals
        go_wp2
        go_ret
        obtain ⟨hsc, hsv⟩ := HS.out
        obtain ⟨hd1, hd2⟩ := HD.out
        have hdd := db_dig d hd10
        have hcat : (s ++ ⟨#[db d]⟩ : ByteArray).data.toList = s.data.toList ++ [db d] := by simp
        refine ⟨_, rfl, ?_, ?_, ?_⟩
        · rw [hcat]; exact canon_append hsc (by rw [hsv]; omega) (by simp [hdd.1])
        · rw [hcat, dval_snoc, hsv, hdd.2]; omega
        · first
          | exact Below.alloc (show Below w.heap.size w w1 from ⟨hW1.os, hW1.tape, hW1.output, hW1.size, hW1.block⟩) hWs _
          | exact Below.trans (b := (w.alloc (.cells #[.int .u8 (48 + (d : Int))] 5)).drew) (((Below.refl _ _).alloc (Nat.le_refl _) _).drew) (hW1.mono (by simp))

/-- The bytes of an int's text. -/
def numB (n : Int) : ByteArray := ⟨(Lib.itoa n).toArray⟩
theorem numB_data (n : Int) : (numB n).data.toList = Lib.itoa n := by simp [numB]
theorem itoa_nat (n : Nat) : Lib.itoa (n : Int) = Lib.decDigits n := by
  unfold Lib.itoa; rw [if_neg (by omega)]; simp
theorem numB_nat_size (n : Nat) (hn : n ≤ 9223372036854775808) : (numB (n : Int)).size ≤ 19 := by
  have hd := dec_canon n
  have := (canon_len_le hd.1 19 (by omega)).2 (by rw [hd.2]; omega)
  show (Lib.itoa (n : Int)).toArray.size ≤ 19
  rw [itoa_nat]
  simpa using this

theorem l1NumN_any (n : Nat) (hn : n ≤ 9223372036854775807) (w : World) :
    Calls Tryd.prog 49 #[.int .i64 (n : Int)] w fun e w' => e = .returned (.string (numB (n : Int))) ∧ Below w.heap.size w w' := by
  refine (l1NumNat_any n hn w).mono ?_
  rintro e w' ⟨s, rfl, hc, hv, hW⟩
  refine ⟨?_, hW⟩
  rw [canon_dec hc hv]
  unfold numB
  rw [itoa_nat]
end Go.Proofs.YtgolfbjfopoeeaaDoor

/-
  Texts of terms (plain).
-/
namespace Go.Proofs.YtgolfbjfopoeeaaDoor
set_option linter.unusedVariables false

/-- The text of a term. -/
def Lm.txt : Lm → List UInt8
  | .var n => Lib.itoa n
  | .lam t => 92 :: t.txt
  | .app a b => 40 :: (a.txt ++ 32 :: (b.txt ++ [41]))
theorem itoa_dig {n : Int} (h0 : 0 ≤ n) : canonB (Lib.itoa n) = true ∧ dval (Lib.itoa n) = n.toNat := by
  obtain ⟨k, rfl⟩ := Int.eq_ofNat_of_zero_le h0
  rw [itoa_nat]; simpa using dec_canon k
theorem itoa_le {n : Int} (h0 : 0 ≤ n) (k : Nat) (hk : 1 ≤ k) (h : n.toNat < 10 ^ k) : (Lib.itoa n).length ≤ k := (canon_len_le (itoa_dig h0).1 k hk).2 (by rw [(itoa_dig h0).2]; exact h)
theorem itoa_pos {n : Int} (h0 : 0 ≤ n) : ∃ c m, Lib.itoa n = c :: m ∧ isDig c = true := by
  have h := (itoa_dig h0).1
  cases e : Lib.itoa n with
  | nil => rw [e] at h; simp [canonB] at h
  | cons c m => rw [e] at h; simp only [canonB, List.all_cons, Bool.and_eq_true] at h; exact ⟨c, m, rfl, h.1.1⟩
theorem itoa_all {n : Int} (h0 : 0 ≤ n) : (Lib.itoa n).all isDig = true := by
  have h := (itoa_dig h0).1
  unfold canonB at h
  simp only [Bool.and_eq_true] at h
  exact h.1
theorem Lm.txt_len : ∀ {t : Lm}, t.ok = true → t.txt.length ≤ 3 * t.sz
  | .var n, h => by
    simp only [Lm.ok, Bool.and_eq_true, decide_eq_true_eq] at h
    have := itoa_le (n := n) h.1 2 (by omega) (by omega)
    simp only [Lm.txt, Lm.sz]; omega
  | .lam t, h => by have := Lm.txt_len (t := t) h; simp only [Lm.txt, Lm.sz, List.length_cons]; omega
  | .app a b, h => by
    simp only [Lm.ok, Bool.and_eq_true] at h
    have h1 := Lm.txt_len h.1
    have h2 := Lm.txt_len h.2
    simp only [Lm.txt, Lm.sz, List.length_cons, List.length_append, List.length_nil]; omega

end Go.Proofs.YtgolfbjfopoeeaaDoor

/-
  Texts of combinators (plain).
-/
namespace Go.Proofs.YtgolfbjfopoeeaaDoor.CB
set_option linter.unusedVariables false

/-- The text of a combinator. -/
def Leaf.txt : Leaf → List UInt8
  | .v n => 120 :: Lib.itoa n
  | .s => [83]
  | .k => [75]
  | .i => [73]
def Lm.txt : Lm → List UInt8
  | .var c => c.txt
  | .app a b => 40 :: (a.txt ++ 32 :: (b.txt ++ [41]))
theorem Leaf.txt_len {c : Leaf} (h : c.ok = true) : 0 < c.txt.length ∧ c.txt.length ≤ 4 := by
  cases c with
  | v n =>
    simp only [Leaf.ok, Bool.and_eq_true, decide_eq_true_eq] at h
    have := itoa_le (n := n) h.1 3 (by omega) (by omega)
    simp only [Leaf.txt, List.length_cons]; omega
  | s => exact ⟨by decide, by decide⟩
  | k => exact ⟨by decide, by decide⟩
  | i => exact ⟨by decide, by decide⟩
theorem Lm.txt_len : ∀ {t : Lm}, t.ok = true → t.txt.length ≤ 4 * t.sz
  | .var n, h => by have := Leaf.txt_len (c := n) h; simp only [Lm.txt, Lm.sz]; omega
  | .app a b, h => by
    simp only [Lm.ok, Bool.and_eq_true] at h
    have h1 := Lm.txt_len h.1
    have h2 := Lm.txt_len h.2
    simp only [Lm.txt, Lm.sz, List.length_cons, List.length_append, List.length_nil]; omega
end Go.Proofs.YtgolfbjfopoeeaaDoor.CB

/-
  How the program and the model read texts of terms, and that both read the same (plain).
-/
namespace Go.Proofs.YtgolfbjfopoeeaaDoor
set_option linter.unusedVariables false

/-! Digits at the front of a text. -/
theorem front_dig {l r : List UInt8} (hl : l.all isDig = true) (hr : ∀ c m, r = c :: m → isDig c = false) : (l ++ r).takeWhile isDig = l ∧ (l ++ r).dropWhile isDig = r := by
  induction l with
  | nil =>
    cases r with
    | nil => exact ⟨rfl, rfl⟩
    | cons c m => have := hr c m rfl; exact ⟨by simp [this], by simp [this]⟩
  | cons d l ih =>
    simp only [List.all_cons, Bool.and_eq_true] at hl
    have := ih hl.2
    simp only [List.cons_append, List.takeWhile, List.dropWhile, hl.1, this.1, this.2, and_self]
theorem take_drop_dig (l : List UInt8) : l.takeWhile isDig ++ l.dropWhile isDig = l := List.takeWhile_append_dropWhile
theorem take_all_dig (l : List UInt8) : (l.takeWhile isDig).all isDig = true := by
  induction l with
  | nil => rfl
  | cons c l ih =>
    by_cases h : isDig c = true
    · simp only [List.takeWhile, h, List.all_cons, ih, Bool.and_self]
    · simp only [Bool.not_eq_true] at h; simp only [List.takeWhile, h]; rfl
/-- What stands ahead of no digit. -/
def Stop (r : List UInt8) : Prop := ∀ c m, r = c :: m → isDig c = false
theorem Stop.nil : Stop [] := fun c m h => by cases h
theorem Stop.cons {c : UInt8} {m : List UInt8} (h : isDig c = false) : Stop (c :: m) := fun d k e => by injection e with e _; rw [← e]; exact h

/-- A number off the front of a text, as the program reads it. -/
def idxP (l : List UInt8) : Option (Int × List UInt8) :=
  match Lib.atoiAll (l.takeWhile isDig) with
  | .ok v => if Lib.itoa v = l.takeWhile isDig then some (v, l.dropWhile isDig) else none
  | _ => none
/-- A term off the front of a text, as the program reads it. -/
def rdP : Nat → List UInt8 → Option (Lm × List UInt8)
  | 0, _ => none
  | _ + 1, [] => none
  | f + 1, c :: r =>
    if c = 92 then (rdP f r).map fun p => (.lam p.1, p.2)
    else if c = 40 then
      match rdP f r with
      | none => none
      | some (a, q) =>
        if q.head? = some 32 then
          match rdP f q.tail with
          | none => none
          | some (b, q2) => if q2.head? = some 41 then some (.app a b, q2.tail) else none
        else none
    else (idxP (c :: r)).map fun p => (.var p.1, p.2)
/-- Variables from 0 on. -/
def Lm.nn : Lm → Bool
  | .var n => decide (0 ≤ n)
  | .lam t => t.nn
  | .app a b => a.nn && b.nn
theorem Lm.ok_nn : ∀ {t : Lm}, t.ok = true → t.nn = true
  | .var n, h => by simp only [Lm.ok, Bool.and_eq_true, decide_eq_true_eq] at h; simp [Lm.nn, h.1]
  | .lam t, h => Lm.ok_nn (t := t) h
  | .app a b, h => by simp only [Lm.ok, Bool.and_eq_true] at h; simp only [Lm.nn, Lm.ok_nn h.1, Lm.ok_nn h.2, Bool.and_self]
theorem itoa_neg {v : Int} (h : v < 0) : ∃ m, Lib.itoa v = 45 :: m := by
  unfold Lib.itoa; rw [if_pos h]; exact ⟨_, rfl⟩
theorem idxP_some {l q : List UInt8} {n : Int} (h : idxP l = some (n, q)) : l = Lib.itoa n ++ q ∧ 0 ≤ n := by
  unfold idxP at h
  split at h
  · next v _ =>
    split at h
    · next he =>
      injection h with h
      injection h with h1 h2
      subst h1 h2
      refine ⟨by rw [he, take_drop_dig], ?_⟩
      by_cases hv : v < 0
      · obtain ⟨m, hm⟩ := itoa_neg hv
        have := take_all_dig l
        rw [← he, hm] at this
        simp only [List.all_cons, Bool.and_eq_true] at this
        exact absurd this.1 (by decide)
      · omega
    · cases h
  · cases h
theorem idxP_itoa {n : Int} (h0 : 0 ≤ n) (hn : n ≤ 999999) {r : List UInt8} (hr : Stop r) : idxP (Lib.itoa n ++ r) = some (n, r) := by
  have hf := front_dig (itoa_all h0) hr
  have hd := itoa_dig h0
  have ha := atoi_small hd.1 (by rw [hd.2]; omega)
  unfold idxP
  rw [hf.1, hf.2, ha, hd.2, show ((n.toNat : Nat) : Int) = n by omega]
  simp
theorem rdP_some : ∀ (f : Nat) (s q : List UInt8) (t : Lm), rdP f s = some (t, q) → s = t.txt ++ q ∧ t.nn = true ∧ t.sz + q.length ≤ s.length
  | 0, _, _, _, h => by cases h
  | f + 1, [], _, _, h => by cases h
  | f + 1, c :: r, q, t, h => by
    rw [rdP] at h
    split at h
    · next hc =>
      obtain ⟨p, hp, he⟩ := Option.map_eq_some_iff.1 h
      obtain ⟨a, q'⟩ := p
      injection he with e1 e2
      subst e1 e2
      have ih := rdP_some f r q' a hp
      refine ⟨by rw [hc, Lm.txt, List.cons_append, ← ih.1], ih.2.1, by have := ih.2.2; simp only [Lm.sz, List.length_cons]; omega⟩
    · split at h
      · next hc =>
        split at h
        · cases h
        · next a q1 h1 =>
          split at h
          · next hh =>
            split at h
            · cases h
            · next b q2 h2 =>
              split at h
              · next hh2 =>
                injection h with h
                injection h with e1 e2
                subst e1 e2
                have i1 := rdP_some f r q1 a h1
                have i2 := rdP_some f q1.tail q2 b h2
                obtain ⟨q1', rfl⟩ : ∃ z, q1 = 32 :: z := by cases q1 with | nil => cases hh | cons d z => simp at hh; exact ⟨z, by rw [hh]⟩
                obtain ⟨q2', rfl⟩ : ∃ z, q2 = 41 :: z := by cases q2 with | nil => cases hh2 | cons d z => simp at hh2; exact ⟨z, by rw [hh2]⟩
                simp only [List.tail_cons] at i2 ⊢
                refine ⟨by rw [hc, i1.1, i2.1]; simp [Lm.txt], by simp only [Lm.nn, i1.2.1, i2.2.1, Bool.and_self], ?_⟩
                have a1 := i1.2.2
                have a2 := i2.2.2
                simp only [Lm.sz, List.length_cons] at *
                omega
              · cases h
          · cases h
      · obtain ⟨p, hp, he⟩ := Option.map_eq_some_iff.1 h
        obtain ⟨n, q'⟩ := p
        injection he with e1 e2
        subst e1 e2
        have hi := idxP_some hp
        obtain ⟨d, m, hd, _⟩ := itoa_pos hi.2
        refine ⟨hi.1, by simp [Lm.nn, hi.2], ?_⟩
        rw [hi.1, hd]
        simp only [Lm.sz, List.length_append, List.length_cons]; omega
theorem Lm.txt_ne (t : Lm) (h : t.nn = true) : ∃ c m, t.txt = c :: m := by
  cases t with
  | var n => simp only [Lm.nn, decide_eq_true_eq] at h; obtain ⟨c, m, e, _⟩ := itoa_pos h; exact ⟨c, m, e⟩
  | lam t => exact ⟨92, t.txt, rfl⟩
  | app a b => exact ⟨40, _, rfl⟩
theorem dig_not {c : UInt8} (h : isDig c = true) : c ≠ 92 ∧ c ≠ 40 := by
  constructor <;> (rintro rfl; exact absurd h (by decide))
theorem rdP_txt : ∀ (t : Lm) (f : Nat) (r : List UInt8), t.ok = true → t.txt.length < f → Stop r → rdP f (t.txt ++ r) = some (t, r)
  | .var n, 0, r, _, hf, _ => by omega
  | .var n, f + 1, r, h, hf, hr => by
    simp only [Lm.ok, Bool.and_eq_true, decide_eq_true_eq] at h
    obtain ⟨c, m, e, hd⟩ := itoa_pos h.1
    have hn := dig_not hd
    have hi := idxP_itoa h.1 (by omega) hr
    simp only [Lm.txt]
    rw [e] at hi ⊢
    rw [List.cons_append] at hi ⊢
    rw [rdP, if_neg hn.1, if_neg hn.2, hi]
    rfl
  | .lam t, 0, r, _, hf, _ => by omega
  | .lam t, f + 1, r, h, hf, hr => by
    have ih := rdP_txt t f r h (by simp only [Lm.txt, List.length_cons] at hf; omega) hr
    rw [Lm.txt, List.cons_append, rdP, if_pos rfl, ih]
    rfl
  | .app a b, 0, r, _, hf, _ => by omega
  | .app a b, f + 1, r, h, hf, hr => by
    simp only [Lm.ok, Bool.and_eq_true] at h
    simp only [Lm.txt, List.length_cons, List.length_append, List.length_nil] at hf
    have i1 := rdP_txt a f (32 :: (b.txt ++ 41 :: r)) h.1 (by omega) (Stop.cons (by decide))
    have i2 := rdP_txt b f (41 :: r) h.2 (by omega) (Stop.cons (by decide))
    have e : (Lm.app a b).txt ++ r = 40 :: (a.txt ++ 32 :: (b.txt ++ 41 :: r)) := by simp [Lm.txt]
    rw [e, rdP, if_neg (by decide), if_pos rfl, i1]
    simp only [List.head?_cons, if_true, List.tail_cons, i2]

/-- A term off the front of a text, and how many bytes it takes, as the model reads it: so many levels are left. -/
def rdM : Nat → List UInt8 → Option (Lm × Nat)
  | 0, _ => none
  | _ + 1, [] => none
  | d + 1, c :: r =>
    if c = 92 then (rdM d r).map fun p => (.lam p.1, p.2 + 1)
    else if c = 40 then
      match rdM d r with
      | none => none
      | some (a, n) =>
        if (c :: r)[n + 1]? = some 32 then
          match rdM d ((c :: r).drop (n + 2)) with
          | none => none
          | some (b, m) => if (c :: r)[n + 2 + m]? = some 41 then some (.app a b, n + 2 + m + 1) else none
        else none
    else
      if ((c :: r).takeWhile isDig).take 2 = [] then none
      else some (.var (dval (((c :: r).takeWhile isDig).take 2) : Int), (((c :: r).takeWhile isDig).take 2).length)
theorem rdM_txt : ∀ (t : Lm) (d : Nat) (r : List UInt8), t.ok = true → t.dp ≤ d → Stop r → rdM d (t.txt ++ r) = some (t, t.txt.length)
  | .var n, 0, r, _, hd, _ => by simp [Lm.dp] at hd
  | .var n, d + 1, r, h, hd, hr => by
    simp only [Lm.ok, Bool.and_eq_true, decide_eq_true_eq] at h
    obtain ⟨c, m, e, hg⟩ := itoa_pos h.1
    have hn := dig_not hg
    have hf := front_dig (itoa_all h.1) hr
    have hl := itoa_le (n := n) h.1 2 (by omega) (by omega)
    have hv := (itoa_dig h.1).2
    simp only [Lm.txt]
    have ht : (Lib.itoa n).take 2 = Lib.itoa n := List.take_of_length_le hl
    have hne : Lib.itoa n ≠ [] := by rw [e]; simp
    obtain ⟨x, hx⟩ : ∃ x, x = Lib.itoa n := ⟨_, rfl⟩
    rw [← hx] at hf ht hne e hv ⊢
    have e2 : x ++ r = c :: (m ++ r) := by rw [e]; rfl
    rw [e2] at hf ⊢
    rw [rdM, if_neg hn.1, if_neg hn.2, hf.1, ht, if_neg hne, hv]
    simp only [Option.some.injEq, Prod.mk.injEq, Lm.var.injEq, and_true]
    omega
  | .lam t, 0, r, _, hd, _ => by simp [Lm.dp] at hd
  | .lam t, d + 1, r, h, hd, hr => by
    have ih := rdM_txt t d r h (by simp only [Lm.dp] at hd; omega) hr
    rw [Lm.txt, List.cons_append, rdM, if_pos rfl, ih]
    rfl
  | .app a b, 0, r, _, hd, _ => by simp [Lm.dp] at hd
  | .app a b, d + 1, r, h, hd, hr => by
    simp only [Lm.ok, Bool.and_eq_true] at h
    simp only [Lm.dp] at hd
    have i1 := rdM_txt a d (32 :: (b.txt ++ 41 :: r)) h.1 (by omega) (Stop.cons (by decide))
    have i2 := rdM_txt b d (41 :: r) h.2 (by omega) (Stop.cons (by decide))
    have e : (Lm.app a b).txt ++ r = 40 :: (a.txt ++ 32 :: (b.txt ++ 41 :: r)) := by simp [Lm.txt]
    have e1 : (40 :: (a.txt ++ 32 :: (b.txt ++ 41 :: r)))[a.txt.length + 1]? = some 32 := by simp
    have e3 : (40 :: (a.txt ++ 32 :: (b.txt ++ 41 :: r))).drop (a.txt.length + 2) = b.txt ++ 41 :: r := by
      rw [List.drop_succ_cons, List.drop_append]; simp
    have e2 : (40 :: (a.txt ++ 32 :: (b.txt ++ 41 :: r)))[a.txt.length + 2 + b.txt.length]? = some 41 := by
      have : a.txt.length + 2 + b.txt.length = (a.txt.length + (1 + b.txt.length)) + 1 := by omega
      rw [this, List.getElem?_cons_succ, List.getElem?_append_right (by omega), Nat.add_sub_cancel_left, Nat.add_comm 1, List.getElem?_cons_succ]
      simp
    rw [e, rdM, if_neg (by decide), if_pos rfl, i1]
    simp only [e1, if_true, e3, i2, e2]
    simp only [Option.some.injEq, Prod.mk.injEq, true_and, Lm.txt, List.length_cons, List.length_append, List.length_nil]
    omega
theorem rdM_len : ∀ (d : Nat) (s : List UInt8) (t : Lm) (n : Nat), rdM d s = some (t, n) → 0 < n ∧ n ≤ s.length ∧ t.txt.length ≤ n ∧ t.ok = true
  | 0, _, _, _, h => by cases h
  | _ + 1, [], _, _, h => by cases h
  | d + 1, c :: r, t, n, h => by
    rw [rdM] at h
    split at h
    · obtain ⟨p, hp, he⟩ := Option.map_eq_some_iff.1 h
      obtain ⟨a, k⟩ := p
      injection he with e1 e2
      subst e1 e2
      have ih := rdM_len d r a k hp
      simp only [Lm.txt, Lm.ok, List.length_cons]
      exact ⟨by omega, by omega, by omega, ih.2.2.2⟩
    · split at h
      · split at h
        · cases h
        · next a k h1 =>
          split at h
          · next hh =>
            split at h
            · cases h
            · next b m h2 =>
              split at h
              · next hh2 =>
                injection h with h
                injection h with e1 e2
                subst e1 e2
                have i1 := rdM_len d r a k h1
                have i2 := rdM_len d _ b m h2
                have hl : k + 2 + m < (c :: r).length := (List.getElem?_eq_some_iff.1 hh2).1
                simp only [Lm.txt, Lm.ok, List.length_cons, List.length_append, List.length_nil, i1.2.2.2, i2.2.2.2, Bool.and_self, and_true] at *
                omega
              · cases h
          · cases h
      · split at h
        · cases h
        · next hne =>
          injection h with h
          injection h with e1 e2
          subst e1 e2
          obtain ⟨x, hx⟩ : ∃ x, x = ((c :: r).takeWhile isDig).take 2 := ⟨_, rfl⟩
          rw [← hx] at hne ⊢
          have hxl : x.length ≤ 2 := by rw [hx, List.length_take]; omega
          have hxa : x.all isDig = true := by
            rw [hx, List.all_eq_true]
            intro z hz
            have h2 := take_all_dig (c :: r)
            rw [List.all_eq_true] at h2
            exact h2 z (List.mem_of_mem_take hz)
          have hxs : x.length ≤ (c :: r).length := by
            rw [hx]
            have h1 := List.length_take_le 2 ((c :: r).takeWhile isDig)
            have h2 : ((c :: r).takeWhile isDig).length ≤ (c :: r).length := by
              conv => rhs; rw [← take_drop_dig (c :: r), List.length_append]
              omega
            rw [List.length_take] at *
            omega
          have hv : dval x ≤ 99 ∧ (Lib.itoa (dval x : Int)).length ≤ x.length := by
            have hd : ∀ z, isDig z = true → dv z ≤ 9 := by
              intro z hz
              unfold isDig at hz
              simp only [Bool.and_eq_true, decide_eq_true_eq] at hz
              unfold dv
              omega
            match x, hne, hxl, hxa with
            | [u], _, _, ha =>
              simp only [List.all_cons, List.all_nil, Bool.and_true] at ha
              have := hd u ha
              have e : dval [u] = dv u := by simp [dval]
              rw [e]
              exact ⟨by omega, itoa_le (by omega) 1 (by omega) (by simp; omega)⟩
            | [u, v], _, _, ha =>
              simp only [List.all_cons, List.all_nil, Bool.and_true, Bool.and_eq_true] at ha
              have h1 := hd u ha.1
              have h2 := hd v ha.2
              have e : dval [u, v] = 10 * dv u + dv v := by simp [dval]
              rw [e]
              exact ⟨by omega, itoa_le (by omega) 2 (by omega) (by simp only [Int.toNat_natCast]; omega)⟩
          have hp : 0 < x.length := by cases x with | nil => exact absurd rfl hne | cons _ _ => simp
          refine ⟨hp, hxs, hv.2, ?_⟩
          simp only [Lm.ok, Bool.and_eq_true, decide_eq_true_eq]
          omega

/-- The program's answer: what is read of a text, if it is a good term and nothing stands behind it. -/
def ansP (s : List UInt8) : Option Lm :=
  if 450 < s.length then none else
  match rdP (s.length + 1) s with
  | none => none
  | some (t, q) => if q = [] then some t else none
/-- The model's. -/
def ansM (s : List UInt8) : Option Lm :=
  match rdM 40 s with
  | none => none
  | some (t, n) => if n = s.length ∧ t.txt = s then some t else none
theorem chk_iff {o : Option Lm} {t : Lm} : o.bind Lm.chk = some t ↔ o = some t ∧ t.good = true := by
  constructor
  · intro h
    cases o with
    | none => cases h
    | some s => obtain ⟨e, hg⟩ := Lm.chk_some (t := s) h; subst e; exact ⟨rfl, hg⟩
  · rintro ⟨rfl, hg⟩
    simp [Lm.chk, hg]
theorem ansP_iff {s : List UInt8} {t : Lm} : (ansP s).bind Lm.chk = some t ↔ t.txt = s ∧ t.good = true := by
  rw [chk_iff]
  constructor
  · rintro ⟨h, hg⟩
    refine ⟨?_, hg⟩
    unfold ansP at h
    split at h
    · cases h
    · split at h
      · cases h
      · next t' q hr =>
        split at h
        · next hq =>
          injection h with h
          subst h hq
          have := (rdP_some _ _ _ _ hr).1
          rw [List.append_nil] at this
          exact this.symm
        · cases h
  · rintro ⟨rfl, hg⟩
    have hs := Lm.good_sz hg
    have hl := Lm.txt_len hs.2.2
    have hr := rdP_txt t (t.txt.length + 1) [] hs.2.2 (by omega) Stop.nil
    rw [List.append_nil] at hr
    refine ⟨?_, hg⟩
    unfold ansP
    rw [if_neg (by omega), hr]
    simp
theorem ansM_iff {s : List UInt8} {t : Lm} : (ansM s).bind Lm.chk = some t ↔ t.txt = s ∧ t.good = true := by
  rw [chk_iff]
  constructor
  · rintro ⟨h, hg⟩
    refine ⟨?_, hg⟩
    unfold ansM at h
    split at h
    · cases h
    · next t' n hr =>
      split at h
      · next hq => injection h with h; subst h; exact hq.2
      · cases h
  · rintro ⟨rfl, hg⟩
    have hs := Lm.good_sz hg
    have hr := rdM_txt t 40 [] hs.2.2 hs.2.1 Stop.nil
    rw [List.append_nil] at hr
    refine ⟨?_, hg⟩
    unfold ansM
    rw [hr]
    simp
/-- What both answer. -/
def ansT (s : List UInt8) : Option Lm := (ansM s).bind Lm.chk
theorem ansP_eq (s : List UInt8) : (ansP s).bind Lm.chk = ansT s := by
  unfold ansT
  apply Option.ext
  intro t
  rw [ansP_iff, ansM_iff]
end Go.Proofs.YtgolfbjfopoeeaaDoor

/-
  How the program and the model read texts of combinators, and that both read the same (plain).
-/
namespace Go.Proofs.YtgolfbjfopoeeaaDoor.CB
set_option linter.unusedVariables false

/-- A combinator off the front of a text, as the program reads it. -/
def rdP : Nat → List UInt8 → Option (Lm × List UInt8)
  | 0, _ => none
  | _ + 1, [] => none
  | f + 1, c :: r =>
    if c = 40 then
      match rdP f r with
      | none => none
      | some (a, q) =>
        if q.head? = some 32 then
          match rdP f q.tail with
          | none => none
          | some (b, q2) => if q2.head? = some 41 then some (.app a b, q2.tail) else none
        else none
    else if c = 83 then some (.var .s, r)
    else if c = 75 then some (.var .k, r)
    else if c = 73 then some (.var .i, r)
    else if c = 120 then (idxP r).map fun p => (.var (.v p.1), p.2)
    else none
theorem rdP_some : ∀ (f : Nat) (s q : List UInt8) (t : Lm), rdP f s = some (t, q) → s = t.txt ++ q ∧ t.sz + q.length ≤ s.length
  | 0, _, _, _, h => by cases h
  | f + 1, [], _, _, h => by cases h
  | f + 1, c :: r, q, t, h => by
    rw [rdP] at h
    split at h
    · next hc =>
      split at h
      · cases h
      · next a q1 h1 =>
        split at h
        · next hh =>
          split at h
          · cases h
          · next b q2 h2 =>
            split at h
            · next hh2 =>
              injection h with h
              injection h with e1 e2
              subst e1 e2
              have i1 := rdP_some f r q1 a h1
              have i2 := rdP_some f q1.tail q2 b h2
              obtain ⟨q1', rfl⟩ : ∃ z, q1 = 32 :: z := by cases q1 with | nil => cases hh | cons d z => simp at hh; exact ⟨z, by rw [hh]⟩
              obtain ⟨q2', rfl⟩ : ∃ z, q2 = 41 :: z := by cases q2 with | nil => cases hh2 | cons d z => simp at hh2; exact ⟨z, by rw [hh2]⟩
              simp only [List.tail_cons] at i2 ⊢
              refine ⟨by rw [hc, i1.1, i2.1]; simp [Lm.txt], ?_⟩
              have a1 := i1.2
              have a2 := i2.2
              simp only [Lm.sz, List.length_cons] at *
              omega
            · cases h
        · cases h
    · split at h
      · next hc => injection h with h; injection h with e1 e2; subst e1 e2; exact ⟨by rw [hc]; rfl, by simp only [Lm.sz, List.length_cons]; omega⟩
      · split at h
        · next hc => injection h with h; injection h with e1 e2; subst e1 e2; exact ⟨by rw [hc]; rfl, by simp only [Lm.sz, List.length_cons]; omega⟩
        · split at h
          · next hc => injection h with h; injection h with e1 e2; subst e1 e2; exact ⟨by rw [hc]; rfl, by simp only [Lm.sz, List.length_cons]; omega⟩
          · split at h
            · next hc =>
              obtain ⟨p, hp, he⟩ := Option.map_eq_some_iff.1 h
              obtain ⟨n, q'⟩ := p
              injection he with e1 e2
              subst e1 e2
              have hi := idxP_some hp
              refine ⟨by rw [hc, hi.1]; rfl, ?_⟩
              rw [hi.1]
              simp only [Lm.sz, List.length_append, List.length_cons]; omega
            · cases h
theorem rdP_txt : ∀ (t : Lm) (f : Nat) (r : List UInt8), t.ok = true → t.txt.length < f → Stop r → rdP f (t.txt ++ r) = some (t, r)
  | .var n, 0, r, _, hf, _ => by omega
  | .var n, f + 1, r, h, hf, hr => by
    cases n with
    | v n =>
      simp only [Lm.ok, Leaf.ok, Bool.and_eq_true, decide_eq_true_eq] at h
      have hi := idxP_itoa h.1 (by omega) hr
      rw [show (Lm.var (.v n)).txt ++ r = 120 :: (Lib.itoa n ++ r) from rfl, rdP, if_neg (by decide), if_neg (by decide), if_neg (by decide), if_neg (by decide), if_pos rfl, hi]
      rfl
    | s => rfl
    | k => rfl
    | i => rfl
  | .app a b, 0, r, _, hf, _ => by omega
  | .app a b, f + 1, r, h, hf, hr => by
    simp only [Lm.ok, Bool.and_eq_true] at h
    simp only [Lm.txt, List.length_cons, List.length_append, List.length_nil] at hf
    have i1 := rdP_txt a f (32 :: (b.txt ++ 41 :: r)) h.1 (by omega) (Stop.cons (by decide))
    have i2 := rdP_txt b f (41 :: r) h.2 (by omega) (Stop.cons (by decide))
    have e : (Lm.app a b).txt ++ r = 40 :: (a.txt ++ 32 :: (b.txt ++ 41 :: r)) := by simp [Lm.txt]
    rw [e, rdP, if_pos rfl, i1]
    simp only [List.head?_cons, if_true, List.tail_cons, i2]

/-- The digits behind an x, three at most. -/
def xD (r : List UInt8) : List UInt8 := (r.takeWhile isDig).take 3
/-- A combinator off the front of a text, and how many bytes it takes, as the model reads it: so many levels are left. -/
def rdM : Nat → List UInt8 → Option (Lm × Nat)
  | 0, _ => none
  | _ + 1, [] => none
  | d + 1, c :: r =>
    if c = 83 then some (.var .s, 1)
    else if c = 75 then some (.var .k, 1)
    else if c = 73 then some (.var .i, 1)
    else if c = 120 then
      if xD r = [] then none
      else some (.var (.v (dval (xD r) : Int)), (xD r).length + 1)
    else if c = 40 then
      match rdM d r with
      | none => none
      | some (a, n) =>
        if (c :: r)[n + 1]? = some 32 then
          match rdM d ((c :: r).drop (n + 2)) with
          | none => none
          | some (b, m) => if (c :: r)[n + 2 + m]? = some 41 then some (.app a b, n + 2 + m + 1) else none
        else none
    else none
theorem rdM_txt : ∀ (t : Lm) (d : Nat) (r : List UInt8), t.ok = true → t.dp ≤ d → Stop r → rdM d (t.txt ++ r) = some (t, t.txt.length)
  | .var n, 0, r, _, hd, _ => by simp [Lm.dp] at hd
  | .var n, d + 1, r, h, hd, hr => by
    cases n with
    | v n =>
      simp only [Lm.ok, Leaf.ok, Bool.and_eq_true, decide_eq_true_eq] at h
      obtain ⟨c, m, e, hg⟩ := itoa_pos h.1
      have hf := front_dig (itoa_all h.1) hr
      have hl := itoa_le (n := n) h.1 3 (by omega) (by omega)
      have hv := (itoa_dig h.1).2
      have ht : xD (Lib.itoa n ++ r) = Lib.itoa n := by unfold xD; rw [hf.1, List.take_of_length_le hl]
      have hne : Lib.itoa n ≠ [] := by rw [e]; simp
      rw [show (Lm.var (.v n)).txt ++ r = 120 :: (Lib.itoa n ++ r) from rfl, rdM, if_neg (by decide), if_neg (by decide), if_neg (by decide), if_pos rfl, ht, if_neg hne, hv]
      simp only [Option.some.injEq, Prod.mk.injEq, Lm.var.injEq, Leaf.v.injEq]
      exact ⟨by omega, rfl⟩
    | s => rfl
    | k => rfl
    | i => rfl
  | .app a b, 0, r, _, hd, _ => by simp [Lm.dp] at hd
  | .app a b, d + 1, r, h, hd, hr => by
    simp only [Lm.ok, Bool.and_eq_true] at h
    simp only [Lm.dp] at hd
    have i1 := rdM_txt a d (32 :: (b.txt ++ 41 :: r)) h.1 (by omega) (Stop.cons (by decide))
    have i2 := rdM_txt b d (41 :: r) h.2 (by omega) (Stop.cons (by decide))
    have e : (Lm.app a b).txt ++ r = 40 :: (a.txt ++ 32 :: (b.txt ++ 41 :: r)) := by simp [Lm.txt]
    have e1 : (40 :: (a.txt ++ 32 :: (b.txt ++ 41 :: r)))[a.txt.length + 1]? = some 32 := by simp
    have e3 : (40 :: (a.txt ++ 32 :: (b.txt ++ 41 :: r))).drop (a.txt.length + 2) = b.txt ++ 41 :: r := by
      rw [List.drop_succ_cons, List.drop_append]; simp
    have e2 : (40 :: (a.txt ++ 32 :: (b.txt ++ 41 :: r)))[a.txt.length + 2 + b.txt.length]? = some 41 := by
      have : a.txt.length + 2 + b.txt.length = (a.txt.length + (1 + b.txt.length)) + 1 := by omega
      rw [this, List.getElem?_cons_succ, List.getElem?_append_right (by omega), Nat.add_sub_cancel_left, Nat.add_comm 1, List.getElem?_cons_succ]
      simp
    rw [e, rdM, if_neg (by decide), if_neg (by decide), if_neg (by decide), if_neg (by decide), if_pos rfl, i1]
    simp only [e1, if_true, e3, i2, e2]
    simp only [Option.some.injEq, Prod.mk.injEq, true_and, Lm.txt, List.length_cons, List.length_append, List.length_nil]
    omega
theorem xD_facts {r : List UInt8} (hne : xD r ≠ []) : 0 < (xD r).length ∧ (xD r).length ≤ 3 ∧ (xD r).length ≤ r.length ∧ dval (xD r) ≤ 999 ∧ (Lib.itoa (dval (xD r) : Int)).length ≤ (xD r).length := by
  obtain ⟨x, hx⟩ : ∃ x, x = xD r := ⟨_, rfl⟩
  rw [← hx] at hne ⊢
  unfold xD at hx
  have hxl : x.length ≤ 3 := by rw [hx, List.length_take]; omega
  have hxa : x.all isDig = true := by
    rw [hx, List.all_eq_true]
    intro z hz
    have h2 := take_all_dig r
    rw [List.all_eq_true] at h2
    exact h2 z (List.mem_of_mem_take hz)
  have hxs : x.length ≤ r.length := by
    rw [hx]
    have h2 : (r.takeWhile isDig).length ≤ r.length := by
      conv => rhs; rw [← take_drop_dig r, List.length_append]
      omega
    rw [List.length_take]
    omega
  have hd : ∀ z, isDig z = true → dv z ≤ 9 := by
    intro z hz
    unfold isDig at hz
    simp only [Bool.and_eq_true, decide_eq_true_eq] at hz
    unfold dv
    omega
  have hp : 0 < x.length := by cases x with | nil => exact absurd rfl hne | cons _ _ => simp
  refine ⟨hp, hxl, hxs, ?_⟩
  match x, hne, hxl, hxa with
  | [u], _, _, ha =>
    simp only [List.all_cons, List.all_nil, Bool.and_true] at ha
    have := hd u ha
    have e : dval [u] = dv u := by simp [dval]
    rw [e]
    exact ⟨by omega, itoa_le (by omega) 1 (by omega) (by simp; omega)⟩
  | [u, v], _, _, ha =>
    simp only [List.all_cons, List.all_nil, Bool.and_true, Bool.and_eq_true] at ha
    have h1 := hd u ha.1
    have h2 := hd v ha.2
    have e : dval [u, v] = 10 * dv u + dv v := by simp [dval]
    rw [e]
    exact ⟨by omega, itoa_le (by omega) 2 (by omega) (by simp only [Int.toNat_natCast]; omega)⟩
  | [u, v, y], _, _, ha =>
    simp only [List.all_cons, List.all_nil, Bool.and_true, Bool.and_eq_true] at ha
    have h1 := hd u ha.1
    have h2 := hd v ha.2.1
    have h3 := hd y ha.2.2
    have e : dval [u, v, y] = 10 * (10 * dv u + dv v) + dv y := by simp [dval]
    rw [e]
    exact ⟨by omega, itoa_le (by omega) 3 (by omega) (by simp only [Int.toNat_natCast]; omega)⟩
theorem rdM_len : ∀ (d : Nat) (s : List UInt8) (t : Lm) (n : Nat), rdM d s = some (t, n) → 0 < n ∧ n ≤ s.length ∧ t.txt.length ≤ n ∧ t.ok = true
  | 0, _, _, _, h => by cases h
  | _ + 1, [], _, _, h => by cases h
  | d + 1, c :: r, t, n, h => by
    have leaf : ∀ x : Leaf, x.txt.length = 1 → x.ok = true → some (Lm.var x, 1) = some (t, n) → 0 < n ∧ n ≤ (c :: r).length ∧ t.txt.length ≤ n ∧ t.ok = true := by
      intro x h1 h2 h3
      injection h3 with h3
      injection h3 with e1 e2
      subst e1 e2
      exact ⟨by decide, by simp only [List.length_cons]; omega, by simp only [Lm.txt, h1]; omega, h2⟩
    rw [rdM] at h
    split at h
    · exact leaf .s rfl rfl h
    · split at h
      · exact leaf .k rfl rfl h
      · split at h
        · exact leaf .i rfl rfl h
        · split at h
          · split at h
            · cases h
            · next hne =>
              injection h with h
              injection h with e1 e2
              subst e1 e2
              have f := xD_facts hne
              refine ⟨by omega, by simp only [List.length_cons]; omega, by simp only [Lm.txt, Leaf.txt, List.length_cons]; omega, ?_⟩
              simp only [Lm.ok, Leaf.ok, Bool.and_eq_true, decide_eq_true_eq]
              omega
          · split at h
            · split at h
              · cases h
              · next a k h1 =>
                split at h
                · next hh =>
                  split at h
                  · cases h
                  · next b m h2 =>
                    split at h
                    · next hh2 =>
                      injection h with h
                      injection h with e1 e2
                      subst e1 e2
                      have i1 := rdM_len d r a k h1
                      have i2 := rdM_len d _ b m h2
                      have hl : k + 2 + m < (c :: r).length := (List.getElem?_eq_some_iff.1 hh2).1
                      simp only [Lm.txt, Lm.ok, List.length_cons, List.length_append, List.length_nil, i1.2.2.2, i2.2.2.2, Bool.and_self, and_true] at *
                      omega
                    · cases h
                · cases h
            · cases h

/-- The program's answer: what is read of a text, if it is a good combinator and nothing stands behind it. -/
def ansP (s : List UInt8) : Option Lm :=
  if 800 < s.length then none else
  match rdP (s.length + 1) s with
  | none => none
  | some (t, q) => if q = [] then some t else none
/-- The model's. -/
def ansM (s : List UInt8) : Option Lm :=
  match rdM 60 s with
  | none => none
  | some (t, n) => if n = s.length ∧ t.txt = s then some t else none
def Lm.chk (t : Lm) : Option Lm := if t.good then some t else none
theorem chk_iff {o : Option Lm} {t : Lm} : o.bind Lm.chk = some t ↔ o = some t ∧ t.good = true := by
  constructor
  · intro h
    cases o with
    | none => cases h
    | some s =>
      simp only [Option.bind_some, Lm.chk] at h
      split at h
      · next hg => injection h with h; subst h; exact ⟨rfl, hg⟩
      · cases h
  · rintro ⟨rfl, hg⟩
    simp [Lm.chk, hg]
theorem ansP_iff {s : List UInt8} {t : Lm} : (ansP s).bind Lm.chk = some t ↔ t.txt = s ∧ t.good = true := by
  rw [chk_iff]
  constructor
  · rintro ⟨h, hg⟩
    refine ⟨?_, hg⟩
    unfold ansP at h
    split at h
    · cases h
    · split at h
      · cases h
      · next t' q hr =>
        split at h
        · next hq =>
          injection h with h
          subst h hq
          have := (rdP_some _ _ _ _ hr).1
          rw [List.append_nil] at this
          exact this.symm
        · cases h
  · rintro ⟨rfl, hg⟩
    have hs := Lm.good_sz hg
    have hl := Lm.txt_len hs.2.2
    have hr := rdP_txt t (t.txt.length + 1) [] hs.2.2 (by omega) Stop.nil
    rw [List.append_nil] at hr
    refine ⟨?_, hg⟩
    unfold ansP
    rw [if_neg (by omega), hr]
    simp
theorem ansM_iff {s : List UInt8} {t : Lm} : (ansM s).bind Lm.chk = some t ↔ t.txt = s ∧ t.good = true := by
  rw [chk_iff]
  constructor
  · rintro ⟨h, hg⟩
    refine ⟨?_, hg⟩
    unfold ansM at h
    split at h
    · cases h
    · next t' n hr =>
      split at h
      · next hq => injection h with h; subst h; exact hq.2
      · cases h
  · rintro ⟨rfl, hg⟩
    have hs := Lm.good_sz hg
    have hr := rdM_txt t 60 [] hs.2.2 hs.2.1 Stop.nil
    rw [List.append_nil] at hr
    refine ⟨?_, hg⟩
    unfold ansM
    rw [hr]
    simp
/-- What both answer. -/
def ansT (s : List UInt8) : Option Lm := (ansM s).bind Lm.chk
theorem ansP_eq (s : List UInt8) : (ansP s).bind Lm.chk = ansT s := by
  unfold ansT
  apply Option.ext
  intro t
  rw [ansP_iff, ansM_iff]
end Go.Proofs.YtgolfbjfopoeeaaDoor.CB

/-
  What the small makers of trees of the model answer: lcVar, lcLam, lcApp.
-/
namespace Go.Proofs.YtgolfbjfopoeeaaDoor.CB
open Go.RowKit BL
set_option linter.unusedVariables false

set_option maxHeartbeats 1000000 in
theorem ldOne_any (k : Int) (w : World) : Calls Tryd.prog 65 #[.int .i64 k] w fun e w' => e = .returned (.agg (lcC k 0 (.slice none 0 0))) ∧ Below w.heap.size w w' := by
  have hz := zero_lcT.1
  have HR := hideT' (RowAt.new w 70 #[.int .i64 k, .int .i64 0, .slice none 0 0])
  unfold lcC
  go_enter Tryd.func65, Tryd.ntmps65
  go_wp2
  refine bodyPost_ret (v := .agg #[.int .i64 k, .int .i64 0, .slice none 0 0]) (results_cell_row Tryd.results65 _ _ w.heap.size 70 #[.int .i64 k, .int .i64 0, .slice none 0 0] (0, 0) _ rfl HR.out Tryd.underlying70 rfl zero_lcT.2) rfl ⟨rfl, (Below.refl _ _).alloc (Nat.le_refl _) _⟩
set_option maxHeartbeats 2000000 in
theorem lcApp_any (s t : Lm) (z1 z2 : Value) (P : Nat → Prop) (w : World) (h1 : LcIn w P s z1) (h2 : LcIn w P t z2) :
    Calls Tryd.prog 66 #[.agg (lcC s.kd s.nm z1), .agg (lcC t.kd t.nm z2)] w fun e w' => (∃ z', e = .returned (.agg (lcC 2 0 z')) ∧ LcIn w' (fun x => P x ∨ w.heap.size ≤ x) (.app s t) z') ∧ Below w.heap.size w w' := by
  have hz := zero_lcT.1
  obtain ⟨o1, c1, rfl⟩ := h1.form
  obtain ⟨o2, c2, rfl⟩ := h2.form
  obtain ⟨W, hW⟩ : ∃ W, W = (((w.alloc (.cells #[.int .i64 s.kd, .int .i64 s.nm, .slice o1 s.kids.length c1] 70)).alloc (.cells #[.int .i64 t.kd, .int .i64 t.nm, .slice o2 t.kids.length c2] 70)).alloc (.cells #[.int .i64 2, .int .i64 0, .slice (some ⟨w.heap.size + 1 + 1 + 1, 0, none⟩) 2 2] 70)).alloc (.cells #[.int .i64 s.kd, .int .i64 s.nm, .slice o1 s.kids.length c1, .int .i64 t.kd, .int .i64 t.nm, .slice o2 t.kids.length c2] 70) := ⟨_, rfl⟩
  have hB : Below w.heap.size w W := by rw [hW]; exact ((((Below.refl _ _).alloc (Nat.le_refl _) _).alloc (by simp) _).alloc (by simp; omega) _).alloc (by simp; omega) _
  have hR : RowAt W (w.heap.size + 1 + 1) 70 #[.int .i64 2, .int .i64 0, .slice (some ⟨w.heap.size + 1 + 1 + 1, 0, none⟩) 2 2] := by
    rw [hW]
    have := RowAt.new ((w.alloc (.cells #[.int .i64 s.kd, .int .i64 s.nm, .slice o1 s.kids.length c1] 70)).alloc (.cells #[.int .i64 t.kd, .int .i64 t.nm, .slice o2 t.kids.length c2] 70)) 70 #[.int .i64 2, .int .i64 0, .slice (some ⟨w.heap.size + 1 + 1 + 1, 0, none⟩) 2 2]
    rw [World.size_alloc, World.size_alloc] at this
    exact RowAt.old this _
  have hK : RowAt W (w.heap.size + 1 + 1 + 1) 70 #[.int .i64 s.kd, .int .i64 s.nm, .slice o1 s.kids.length c1, .int .i64 t.kd, .int .i64 t.nm, .slice o2 t.kids.length c2] := by
    rw [hW]
    have := RowAt.new (((w.alloc (.cells #[.int .i64 s.kd, .int .i64 s.nm, .slice o1 s.kids.length c1] 70)).alloc (.cells #[.int .i64 t.kd, .int .i64 t.nm, .slice o2 t.kids.length c2] 70)).alloc (.cells #[.int .i64 2, .int .i64 0, .slice (some ⟨w.heap.size + 1 + 1 + 1, 0, none⟩) 2 2] 70)) 70 #[.int .i64 s.kd, .int .i64 s.nm, .slice o1 s.kids.length c1, .int .i64 t.kd, .int .i64 t.nm, .slice o2 t.kids.length c2]
    rw [World.size_alloc, World.size_alloc, World.size_alloc] at this
    exact this
  have HF : Hid (LcIn W (fun x => P x ∨ w.heap.size ≤ x) (.app s t) (.slice (some ⟨w.heap.size + 1 + 1 + 1, 0, none⟩) 2 2) ∧ Below w.heap.size w W ∧ RowAt W (w.heap.size + 1 + 1) 70 #[.int .i64 2, .int .i64 0, .slice (some ⟨w.heap.size + 1 + 1 + 1, 0, none⟩) 2 2]) := by
    refine ⟨⟨w.heap.size + 1 + 1 + 1, 2, .slice o1 s.kids.length c1, .slice o2 t.kids.length c2, rfl, ⟨hK.lt, .inr (by omega)⟩, ⟨?_, ?_, ?_⟩, ⟨?_, ?_, ?_⟩, LcIn.keep (w := w) hB.size (fun x _ hx => hB.block x hx) (fun x hx _ => .inl hx) h1, LcIn.keep (w := w) hB.size (fun x _ hx => hB.block x hx) (fun x hx _ => .inl hx) h2⟩, hB, hR⟩ <;> (rw [cell_of_row _ _ _ _ _ _ hK]; rfl)
  clear h1 h2 hB hR hK
  unfold lcC
  go_enter Tryd.func66, Tryd.ntmps66
  go_wp2
  rw [← hW]
  exact bodyPost_ret (v := .agg #[.int .i64 2, .int .i64 0, .slice (some ⟨w.heap.size + 1 + 1 + 1, 0, none⟩) 2 2]) (results_cell_row Tryd.results66 _ _ (w.heap.size + 1 + 1) 70 #[.int .i64 2, .int .i64 0, .slice (some ⟨w.heap.size + 1 + 1 + 1, 0, none⟩) 2 2] (0, 0) _ rfl HF.out.2.2 Tryd.underlying70 rfl zero_lcT.2) rfl ⟨⟨_, rfl, HF.out.1⟩, HF.out.2.1⟩
end Go.Proofs.YtgolfbjfopoeeaaDoor.CB

/-
  A tree of the model that is made part by part, in memory.
-/
namespace Go.Proofs.YtgolfbjfopoeeaaDoor.CB
open Go.RowKit BL
set_option linter.unusedVariables false

/-- Blocks of parts of a new tree: old ones below its own, and new ones, but for the row of the parts. -/
def OutP (w3 : World) (ob : Nat) (P : Nat → Prop) (z : Value) (x : Nat) : Prop := ((P x ∧ x < ob) ∨ w3.heap.size ≤ x) ∧ z.ownBlock ≠ some x
structure OutZ (w3 wr : World) (ob : Nat) (kd nm : Int) (P : Nat → Prop) (As : List Lm) (z : Value) (ys : List Value) : Prop where
  row : RowAt wr ob 70 (lcC kd nm z)
  own : wr.ownsRow w3.heap.size 70 3 z As.length ys
  kids : LcsIn wr (OutP w3 ob P z) As ys
  same : ∀ b, b < w3.heap.size → b ≠ ob → wr.heap[b]? = w3.heap[b]?
  size : w3.heap.size ≤ wr.heap.size
  lt : ob < w3.heap.size
theorem OutZ.start {w3 : World} {ob : Nat} {kd nm : Int} {P : Nat → Prop} (h : RowAt w3 ob 70 (lcC kd nm (.slice none 0 0))) : OutZ w3 w3 ob kd nm P [] (.slice none 0 0) [] :=
  ⟨h, ⟨rfl, .inl ⟨rfl, rfl⟩⟩, rfl, fun _ _ _ => rfl, Nat.le_refl _, h.lt⟩
theorem OutZ.below {w3 wr w' : World} {ob : Nat} {kd nm : Int} {P : Nat → Prop} {As : List Lm} {z : Value} {ys : List Value} (h : OutZ w3 wr ob kd nm P As z ys) (hB : Below wr.heap.size wr w') : OutZ w3 w' ob kd nm P As z ys :=
  ⟨h.row.below hB h.row.lt, own_keep h.own (fun g e => hB.block g (h.own.lt g e).2), LcsIn.keep hB.size (fun x _ hl => hB.block x hl) (fun _ h _ => h) h.kids, fun b hb hne => by rw [hB.block b (Nat.lt_of_lt_of_le hb h.size)]; exact h.same b hb hne, Nat.le_trans h.size hB.size, h.lt⟩
theorem OutZ.rowOf {w3 wr : World} {ob : Nat} {kd nm : Int} {P : Nat → Prop} {As : List Lm} {z : Value} {ys : List Value} (h : OutZ w3 wr ob kd nm P As z ys) {b : Nat} {T : TypeId} {cs : Array Value} (hb : b ≠ ob) (hR : RowAt w3 b T cs) : RowAt wr b T cs := by
  unfold RowAt; rw [h.same b hR.lt hb]; exact hR
theorem OutZ.push {w3 wr w6 w7 : World} {X : Obj} {ob : Nat} {kd nm : Int} {P : Nat → Prop} {As : List Lm} {z v6 z1 : Value} {ys : List Value} {T : Lm} (h : OutZ w3 wr ob kd nm P As z ys) (hT : LcIn wr (OutP w3 ob P z) T z1)
    (hv6 : w6.ownsRow w3.heap.size 70 3 v6 (As.length + 1) (ys ++ lcL T.kd T.nm z1)) (hg6 : (wr.alloc X).grownBy w6 z.ownBlock) (hb6 : v6.ownBlock = z.ownBlock ∨ v6.ownBlock = some (wr.alloc X).heap.size)
    (hR7 : RowAt w7 ob 70 (lcC kd nm v6)) (hg7 : w6.grownBy w7 (some ob)) : OutZ w3 w7 ob kd nm P (As ++ [T]) v6 (ys ++ lcL T.kd T.nm z1) := by
  have hs := h.size
  have hlt := h.lt
  have hs6 := hg6.size
  have hs7 := hg7.size
  simp only [World.size_alloc] at hs6 hb6
  have hnb : ∀ b, z.ownBlock = some b → w3.heap.size ≤ b ∧ b < wr.heap.size := fun b hb => h.own.lt b hb
  have hgx : ∀ b, b < wr.heap.size → b ≠ ob → z.ownBlock ≠ some b → w7.heap[b]? = wr.heap[b]? := fun b hb hbt hbo => by
    rw [hg7.block b (by omega) (by intro e; injection e; omega), hg6.block b (by simp; omega) (fun e => hbo e.symm), Below.heap_alloc _ _ _ hb]
  have hown6 : ∀ b, b < wr.heap.size → z.ownBlock ≠ some b → v6.ownBlock ≠ some b := fun b hb hbo e => by
    rcases hb6 with h | h
    · exact hbo (by rw [← h]; exact e)
    · rw [h] at e
      injection e with e
      omega
  have hne : ∀ x, OutP w3 ob P z x → x ≠ ob := fun x hx => by rcases hx.1 with hx | hx <;> omega
  refine ⟨hR7, ?_, LcsIn.snoc (LcIn.keep (w := wr) (by omega) (fun x hx hl => hgx x hl (hne x hx) hx.2) (fun x hx hl => ⟨hx.1, hown6 x hl hx.2⟩) hT) (LcsIn.keep (w := wr) (by omega) (fun x hx hl => hgx x hl (hne x hx) hx.2) (fun x hx hl => ⟨hx.1, hown6 x hl hx.2⟩) h.kids), fun b hb hbt => ?_, by omega, hlt⟩
  · rw [List.length_append]
    exact own_keep hv6 (fun b hb => hg7.block b (hv6.lt b hb).2 (by intro e; injection e with e; have := (hv6.lt b hb).1; omega))
  · rw [hgx b (by omega) hbt (fun e => by have := (hnb b e).1; omega)]
    exact h.same b hb hbt
theorem OutZ.done {w3 wr : World} {ob : Nat} {P : Nat → Prop} {t : Lm} {z : Value} {ys : List Value} {kd nm : Int} (h : OutZ w3 wr ob kd nm P t.kids z ys) : LcIn wr (fun x => (P x ∧ x < ob) ∨ w3.heap.size ≤ x) t z :=
  LcIn.of_row (B := w3.heap.size) (ys := ys) h.own (LcsIn.keep (Nat.le_refl _) (fun _ _ _ => rfl) (fun x hx _ => hx.1) h.kids) (fun g e => .inr (h.own.lt g e).1)
/-- What is old, or lies behind a point that is new, is no block of the row. -/
theorem OutZ.part {w3 wr w' : World} {ob N : Nat} {kd nm : Int} {P Q : Nat → Prop} {As : List Lm} {z z1 : Value} {ys : List Value} {T : Lm} (h : OutZ w3 wr ob kd nm P As z ys) (hN : wr.heap.size ≤ N) (hT : LcIn w' Q T z1) (hQ : ∀ x, Q x → x < w'.heap.size → (P x ∧ x < ob) ∨ N ≤ x) : LcIn w' (OutP w3 ob P z) T z1 := by
  refine LcIn.mono (fun x hx hl => ?_) hT
  have hs := h.size
  have hlt := h.lt
  have hnb : ∀ b, z.ownBlock = some b → w3.heap.size ≤ b ∧ b < wr.heap.size := fun b hb => h.own.lt b hb
  rcases hQ x hx hl with h1 | h1
  · exact ⟨.inl h1, fun e => by have := hnb x e; omega⟩
  · exact ⟨.inr (by omega), fun e => by have := hnb x e; omega⟩
theorem res_lc_tmp {fn : Func} {x u : Tmp} (h : fn.results = #[.cell x 70, .tmp u]) (tmps : Array Value) (w : World) (b : Nat) (k n : Int) (z v : Value)
    (hp : tmps.getD x undef = .pointer (some ⟨b, 0, none⟩)) (hv : tmps.getD u undef = v) (hN : RowAt w b 70 (lcC k n z)) : (results fn tmps).run Tryd.prog w = .ok (.tuple #[.agg (lcC k n z), v]) w := by
  rw [results_cell_tmp h, hp, hv]
  simp only [asAddr, Sem.run_pure, Result.andThen, run_loadVar_row w b 70 70 (lcC k n z) (0, 0) _ hN Tryd.underlying70 rfl zero_lcT.2]
end Go.Proofs.YtgolfbjfopoeeaaDoor.CB

/-
  What the small makers of trees of the model answer: lcVar, lcLam, lcApp.
-/
namespace Go.Proofs.YtgolfbjfopoeeaaDoor
open Go.RowKit BL
set_option linter.unusedVariables false

set_option maxHeartbeats 1000000 in
theorem lcVar_any (n : Int) (w : World) : Calls Tryd.prog 54 #[.int .i64 n] w fun e w' => e = .returned (.agg (lcC 1 n (.slice none 0 0))) ∧ Below w.heap.size w w' := by
  have hz := zero_lcT.1
  have HR := hideT' (RowAt.new w 48 #[.int .i64 1, .int .i64 n, .slice none 0 0])
  unfold lcC
  go_enter Tryd.func54, Tryd.ntmps54
  go_wp2
  refine bodyPost_ret (v := .agg #[.int .i64 1, .int .i64 n, .slice none 0 0]) (results_cell_row Tryd.results54 _ _ w.heap.size 48 #[.int .i64 1, .int .i64 n, .slice none 0 0] (0, 0) _ rfl HR.out Tryd.underlying48 rfl zero_lcT.2) rfl ⟨rfl, (Below.refl _ _).alloc (Nat.le_refl _) _⟩

set_option maxHeartbeats 2000000 in
theorem lcLam_any (t : Lm) (z : Value) (P : Nat → Prop) (w : World) (h : LcIn w P t z) :
    Calls Tryd.prog 52 #[.agg (lcC t.kd t.nm z)] w fun e w' => (∃ z', e = .returned (.agg (lcC 2 0 z')) ∧ LcIn w' (fun x => P x ∨ w.heap.size ≤ x) (.lam t) z') ∧ Below w.heap.size w w' := by
  have hz := zero_lcT.1
  obtain ⟨oz, cz, rfl⟩ := h.form
  obtain ⟨W, hW⟩ : ∃ W, W = ((w.alloc (.cells #[.int .i64 t.kd, .int .i64 t.nm, .slice oz t.kids.length cz] 48)).alloc (.cells #[.int .i64 2, .int .i64 0, .slice (some ⟨w.heap.size + 1 + 1, 0, none⟩) 1 1] 48)).alloc (.cells #[.int .i64 t.kd, .int .i64 t.nm, .slice oz t.kids.length cz] 48) := ⟨_, rfl⟩
  have hB : Below w.heap.size w W := by rw [hW]; exact (((Below.refl _ _).alloc (Nat.le_refl _) _).alloc (by simp) _).alloc (by simp; omega) _
  have hR : RowAt W (w.heap.size + 1) 48 #[.int .i64 2, .int .i64 0, .slice (some ⟨w.heap.size + 1 + 1, 0, none⟩) 1 1] := by
    rw [hW]
    have := RowAt.new (w.alloc (.cells #[.int .i64 t.kd, .int .i64 t.nm, .slice oz t.kids.length cz] 48)) 48 #[.int .i64 2, .int .i64 0, .slice (some ⟨w.heap.size + 1 + 1, 0, none⟩) 1 1]
    rw [World.size_alloc] at this
    exact RowAt.old this _
  have hK : RowAt W (w.heap.size + 1 + 1) 48 #[.int .i64 t.kd, .int .i64 t.nm, .slice oz t.kids.length cz] := by
    rw [hW]
    have := RowAt.new ((w.alloc (.cells #[.int .i64 t.kd, .int .i64 t.nm, .slice oz t.kids.length cz] 48)).alloc (.cells #[.int .i64 2, .int .i64 0, .slice (some ⟨w.heap.size + 1 + 1, 0, none⟩) 1 1] 48)) 48 #[.int .i64 t.kd, .int .i64 t.nm, .slice oz t.kids.length cz]
    rw [World.size_alloc, World.size_alloc] at this
    exact this
  have HF : Hid (LcIn W (fun x => P x ∨ w.heap.size ≤ x) (.lam t) (.slice (some ⟨w.heap.size + 1 + 1, 0, none⟩) 1 1) ∧ Below w.heap.size w W ∧ RowAt W (w.heap.size + 1) 48 #[.int .i64 2, .int .i64 0, .slice (some ⟨w.heap.size + 1 + 1, 0, none⟩) 1 1]) := by
    refine ⟨⟨w.heap.size + 1 + 1, 1, .slice oz t.kids.length cz, rfl, ⟨hK.lt, .inr (by omega)⟩, ⟨?_, ?_, ?_⟩, LcIn.keep (w := w) hB.size (fun x _ hx => hB.block x hx) (fun x hx _ => .inl hx) h⟩, hB, hR⟩ <;> (rw [cell_of_row _ _ _ _ _ _ hK]; rfl)
  clear h hB hR hK
  unfold lcC
  go_enter Tryd.func52, Tryd.ntmps52
  go_wp2
  rw [← hW]
  exact bodyPost_ret (v := .agg #[.int .i64 2, .int .i64 0, .slice (some ⟨w.heap.size + 1 + 1, 0, none⟩) 1 1]) (results_cell_row Tryd.results52 _ _ (w.heap.size + 1) 48 #[.int .i64 2, .int .i64 0, .slice (some ⟨w.heap.size + 1 + 1, 0, none⟩) 1 1] (0, 0) _ rfl HF.out.2.2 Tryd.underlying48 rfl zero_lcT.2) rfl ⟨⟨_, rfl, HF.out.1⟩, HF.out.2.1⟩
set_option maxHeartbeats 2000000 in
theorem lcApp_any (s t : Lm) (z1 z2 : Value) (P : Nat → Prop) (w : World) (h1 : LcIn w P s z1) (h2 : LcIn w P t z2) :
    Calls Tryd.prog 53 #[.agg (lcC s.kd s.nm z1), .agg (lcC t.kd t.nm z2)] w fun e w' => (∃ z', e = .returned (.agg (lcC 3 0 z')) ∧ LcIn w' (fun x => P x ∨ w.heap.size ≤ x) (.app s t) z') ∧ Below w.heap.size w w' := by
  have hz := zero_lcT.1
  obtain ⟨o1, c1, rfl⟩ := h1.form
  obtain ⟨o2, c2, rfl⟩ := h2.form
  obtain ⟨W, hW⟩ : ∃ W, W = (((w.alloc (.cells #[.int .i64 s.kd, .int .i64 s.nm, .slice o1 s.kids.length c1] 48)).alloc (.cells #[.int .i64 t.kd, .int .i64 t.nm, .slice o2 t.kids.length c2] 48)).alloc (.cells #[.int .i64 3, .int .i64 0, .slice (some ⟨w.heap.size + 1 + 1 + 1, 0, none⟩) 2 2] 48)).alloc (.cells #[.int .i64 s.kd, .int .i64 s.nm, .slice o1 s.kids.length c1, .int .i64 t.kd, .int .i64 t.nm, .slice o2 t.kids.length c2] 48) := ⟨_, rfl⟩
  have hB : Below w.heap.size w W := by rw [hW]; exact ((((Below.refl _ _).alloc (Nat.le_refl _) _).alloc (by simp) _).alloc (by simp; omega) _).alloc (by simp; omega) _
  have hR : RowAt W (w.heap.size + 1 + 1) 48 #[.int .i64 3, .int .i64 0, .slice (some ⟨w.heap.size + 1 + 1 + 1, 0, none⟩) 2 2] := by
    rw [hW]
    have := RowAt.new ((w.alloc (.cells #[.int .i64 s.kd, .int .i64 s.nm, .slice o1 s.kids.length c1] 48)).alloc (.cells #[.int .i64 t.kd, .int .i64 t.nm, .slice o2 t.kids.length c2] 48)) 48 #[.int .i64 3, .int .i64 0, .slice (some ⟨w.heap.size + 1 + 1 + 1, 0, none⟩) 2 2]
    rw [World.size_alloc, World.size_alloc] at this
    exact RowAt.old this _
  have hK : RowAt W (w.heap.size + 1 + 1 + 1) 48 #[.int .i64 s.kd, .int .i64 s.nm, .slice o1 s.kids.length c1, .int .i64 t.kd, .int .i64 t.nm, .slice o2 t.kids.length c2] := by
    rw [hW]
    have := RowAt.new (((w.alloc (.cells #[.int .i64 s.kd, .int .i64 s.nm, .slice o1 s.kids.length c1] 48)).alloc (.cells #[.int .i64 t.kd, .int .i64 t.nm, .slice o2 t.kids.length c2] 48)).alloc (.cells #[.int .i64 3, .int .i64 0, .slice (some ⟨w.heap.size + 1 + 1 + 1, 0, none⟩) 2 2] 48)) 48 #[.int .i64 s.kd, .int .i64 s.nm, .slice o1 s.kids.length c1, .int .i64 t.kd, .int .i64 t.nm, .slice o2 t.kids.length c2]
    rw [World.size_alloc, World.size_alloc, World.size_alloc] at this
    exact this
  have HF : Hid (LcIn W (fun x => P x ∨ w.heap.size ≤ x) (.app s t) (.slice (some ⟨w.heap.size + 1 + 1 + 1, 0, none⟩) 2 2) ∧ Below w.heap.size w W ∧ RowAt W (w.heap.size + 1 + 1) 48 #[.int .i64 3, .int .i64 0, .slice (some ⟨w.heap.size + 1 + 1 + 1, 0, none⟩) 2 2]) := by
    refine ⟨⟨w.heap.size + 1 + 1 + 1, 2, .slice o1 s.kids.length c1, .slice o2 t.kids.length c2, rfl, ⟨hK.lt, .inr (by omega)⟩, ⟨?_, ?_, ?_⟩, ⟨?_, ?_, ?_⟩, LcIn.keep (w := w) hB.size (fun x _ hx => hB.block x hx) (fun x hx _ => .inl hx) h1, LcIn.keep (w := w) hB.size (fun x _ hx => hB.block x hx) (fun x hx _ => .inl hx) h2⟩, hB, hR⟩ <;> (rw [cell_of_row _ _ _ _ _ _ hK]; rfl)
  clear h1 h2 hB hR hK
  unfold lcC
  go_enter Tryd.func53, Tryd.ntmps53
  go_wp2
  rw [← hW]
  exact bodyPost_ret (v := .agg #[.int .i64 3, .int .i64 0, .slice (some ⟨w.heap.size + 1 + 1 + 1, 0, none⟩) 2 2]) (results_cell_row Tryd.results53 _ _ (w.heap.size + 1 + 1) 48 #[.int .i64 3, .int .i64 0, .slice (some ⟨w.heap.size + 1 + 1 + 1, 0, none⟩) 2 2] (0, 0) _ rfl HF.out.2.2 Tryd.underlying48 rfl zero_lcT.2) rfl ⟨⟨_, rfl, HF.out.1⟩, HF.out.2.1⟩
end Go.Proofs.YtgolfbjfopoeeaaDoor

/-
  A tree of the model that is made part by part, in memory.
-/
namespace Go.Proofs.YtgolfbjfopoeeaaDoor
open Go.RowKit BL
set_option linter.unusedVariables false

/-- Blocks of parts of a new tree: old ones below its own, and new ones, but for the row of the parts. -/
def OutP (w3 : World) (ob : Nat) (P : Nat → Prop) (z : Value) (x : Nat) : Prop := ((P x ∧ x < ob) ∨ w3.heap.size ≤ x) ∧ z.ownBlock ≠ some x
structure OutZ (w3 wr : World) (ob : Nat) (kd nm : Int) (P : Nat → Prop) (As : List Lm) (z : Value) (ys : List Value) : Prop where
  row : RowAt wr ob 48 (lcC kd nm z)
  own : wr.ownsRow w3.heap.size 48 3 z As.length ys
  kids : LcsIn wr (OutP w3 ob P z) As ys
  same : ∀ b, b < w3.heap.size → b ≠ ob → wr.heap[b]? = w3.heap[b]?
  size : w3.heap.size ≤ wr.heap.size
  lt : ob < w3.heap.size
theorem OutZ.start {w3 : World} {ob : Nat} {kd nm : Int} {P : Nat → Prop} (h : RowAt w3 ob 48 (lcC kd nm (.slice none 0 0))) : OutZ w3 w3 ob kd nm P [] (.slice none 0 0) [] :=
  ⟨h, ⟨rfl, .inl ⟨rfl, rfl⟩⟩, rfl, fun _ _ _ => rfl, Nat.le_refl _, h.lt⟩
theorem OutZ.below {w3 wr w' : World} {ob : Nat} {kd nm : Int} {P : Nat → Prop} {As : List Lm} {z : Value} {ys : List Value} (h : OutZ w3 wr ob kd nm P As z ys) (hB : Below wr.heap.size wr w') : OutZ w3 w' ob kd nm P As z ys :=
  ⟨h.row.below hB h.row.lt, own_keep h.own (fun g e => hB.block g (h.own.lt g e).2), LcsIn.keep hB.size (fun x _ hl => hB.block x hl) (fun _ h _ => h) h.kids, fun b hb hne => by rw [hB.block b (Nat.lt_of_lt_of_le hb h.size)]; exact h.same b hb hne, Nat.le_trans h.size hB.size, h.lt⟩
theorem OutZ.moved {w3 wr w' : World} {ob : Nat} {kd nm : Int} {P : Nat → Prop} {As : List Lm} {z : Value} {ys : List Value} (h : OutZ w3 wr ob kd nm P As z ys) (hs : wr.heap.size ≤ w'.heap.size) (hb : ∀ x, x < wr.heap.size → w'.heap[x]? = wr.heap[x]?) : OutZ w3 w' ob kd nm P As z ys :=
  ⟨by unfold RowAt; rw [hb _ h.row.lt]; exact h.row, own_keep h.own (fun g e => hb g (h.own.lt g e).2), LcsIn.keep hs (fun x _ hl => hb x hl) (fun _ h _ => h) h.kids, fun b hl hne => by rw [hb b (Nat.lt_of_lt_of_le hl h.size)]; exact h.same b hl hne, Nat.le_trans h.size hs, h.lt⟩
theorem OutZ.rowOf {w3 wr : World} {ob : Nat} {kd nm : Int} {P : Nat → Prop} {As : List Lm} {z : Value} {ys : List Value} (h : OutZ w3 wr ob kd nm P As z ys) {b : Nat} {T : TypeId} {cs : Array Value} (hb : b ≠ ob) (hR : RowAt w3 b T cs) : RowAt wr b T cs := by
  unfold RowAt; rw [h.same b hR.lt hb]; exact hR
theorem OutZ.push {w3 wr w6 w7 : World} {X : Obj} {ob : Nat} {kd nm : Int} {P : Nat → Prop} {As : List Lm} {z v6 z1 : Value} {ys : List Value} {T : Lm} (h : OutZ w3 wr ob kd nm P As z ys) (hT : LcIn wr (OutP w3 ob P z) T z1)
    (hv6 : w6.ownsRow w3.heap.size 48 3 v6 (As.length + 1) (ys ++ lcL T.kd T.nm z1)) (hg6 : (wr.alloc X).grownBy w6 z.ownBlock) (hb6 : v6.ownBlock = z.ownBlock ∨ v6.ownBlock = some (wr.alloc X).heap.size)
    (hR7 : RowAt w7 ob 48 (lcC kd nm v6)) (hg7 : w6.grownBy w7 (some ob)) : OutZ w3 w7 ob kd nm P (As ++ [T]) v6 (ys ++ lcL T.kd T.nm z1) := by
  have hs := h.size
  have hlt := h.lt
  have hs6 := hg6.size
  have hs7 := hg7.size
  simp only [World.size_alloc] at hs6 hb6
  have hnb : ∀ b, z.ownBlock = some b → w3.heap.size ≤ b ∧ b < wr.heap.size := fun b hb => h.own.lt b hb
  have hgx : ∀ b, b < wr.heap.size → b ≠ ob → z.ownBlock ≠ some b → w7.heap[b]? = wr.heap[b]? := fun b hb hbt hbo => by
    rw [hg7.block b (by omega) (by intro e; injection e; omega), hg6.block b (by simp; omega) (fun e => hbo e.symm), Below.heap_alloc _ _ _ hb]
  have hown6 : ∀ b, b < wr.heap.size → z.ownBlock ≠ some b → v6.ownBlock ≠ some b := fun b hb hbo e => by
    rcases hb6 with h | h
    · exact hbo (by rw [← h]; exact e)
    · rw [h] at e
      injection e with e
      omega
  have hne : ∀ x, OutP w3 ob P z x → x ≠ ob := fun x hx => by rcases hx.1 with hx | hx <;> omega
  refine ⟨hR7, ?_, LcsIn.snoc (LcIn.keep (w := wr) (by omega) (fun x hx hl => hgx x hl (hne x hx) hx.2) (fun x hx hl => ⟨hx.1, hown6 x hl hx.2⟩) hT) (LcsIn.keep (w := wr) (by omega) (fun x hx hl => hgx x hl (hne x hx) hx.2) (fun x hx hl => ⟨hx.1, hown6 x hl hx.2⟩) h.kids), fun b hb hbt => ?_, by omega, hlt⟩
  · rw [List.length_append]
    exact own_keep hv6 (fun b hb => hg7.block b (hv6.lt b hb).2 (by intro e; injection e with e; have := (hv6.lt b hb).1; omega))
  · rw [hgx b (by omega) hbt (fun e => by have := (hnb b e).1; omega)]
    exact h.same b hb hbt
theorem OutZ.done {w3 wr : World} {ob : Nat} {P : Nat → Prop} {t : Lm} {z : Value} {ys : List Value} {kd nm : Int} (h : OutZ w3 wr ob kd nm P t.kids z ys) : LcIn wr (fun x => (P x ∧ x < ob) ∨ w3.heap.size ≤ x) t z :=
  LcIn.of_row (B := w3.heap.size) (ys := ys) h.own (LcsIn.keep (Nat.le_refl _) (fun _ _ _ => rfl) (fun x hx _ => hx.1) h.kids) (fun g e => .inr (h.own.lt g e).1)
/-- What is old, or lies behind a point that is new, is no block of the row. -/
theorem OutZ.part {w3 wr w' : World} {ob N : Nat} {kd nm : Int} {P Q : Nat → Prop} {As : List Lm} {z z1 : Value} {ys : List Value} {T : Lm} (h : OutZ w3 wr ob kd nm P As z ys) (hN : wr.heap.size ≤ N) (hT : LcIn w' Q T z1) (hQ : ∀ x, Q x → x < w'.heap.size → (P x ∧ x < ob) ∨ N ≤ x) : LcIn w' (OutP w3 ob P z) T z1 := by
  refine LcIn.mono (fun x hx hl => ?_) hT
  have hs := h.size
  have hlt := h.lt
  have hnb : ∀ b, z.ownBlock = some b → w3.heap.size ≤ b ∧ b < wr.heap.size := fun b hb => h.own.lt b hb
  rcases hQ x hx hl with h1 | h1
  · exact ⟨.inl h1, fun e => by have := hnb x e; omega⟩
  · exact ⟨.inr (by omega), fun e => by have := hnb x e; omega⟩
theorem res_lc_tmp {fn : Func} {x u : Tmp} (h : fn.results = #[.cell x 48, .tmp u]) (tmps : Array Value) (w : World) (b : Nat) (k n : Int) (z v : Value)
    (hp : tmps.getD x undef = .pointer (some ⟨b, 0, none⟩)) (hv : tmps.getD u undef = v) (hN : RowAt w b 48 (lcC k n z)) : (results fn tmps).run Tryd.prog w = .ok (.tuple #[.agg (lcC k n z), v]) w := by
  rw [results_cell_tmp h, hp, hv]
  simp only [asAddr, Sem.run_pure, Result.andThen, run_loadVar_row w b 48 48 (lcC k n z) (0, 0) _ hN Tryd.underlying48 rfl zero_lcT.2]
end Go.Proofs.YtgolfbjfopoeeaaDoor

/-
  What lcRead of the model answers: a term off the front of a text.
-/
namespace Go.Proofs.YtgolfbjfopoeeaaDoor
open Go.RowKit BL
set_option linter.unusedVariables false

theorem tw_get : ∀ (l : List UInt8) (i : Nat), i < (l.takeWhile isDig).length → ∃ c, l[i]? = some c ∧ isDig c = true
  | [], i, h => by simp at h
  | c :: l, i, h => by
    by_cases hc : isDig c = true
    · simp only [List.takeWhile, hc, List.length_cons] at h
      cases i with
      | zero => exact ⟨c, rfl, hc⟩
      | succ i => exact tw_get l i (by omega)
    · simp only [Bool.not_eq_true] at hc
      simp [List.takeWhile, hc] at h
theorem tw_end : ∀ (l : List UInt8) (c : UInt8), l[(l.takeWhile isDig).length]? = some c → isDig c = false
  | [], c, h => by simp at h
  | d :: l, c, h => by
    by_cases hd : isDig d = true
    · simp only [List.takeWhile, hd, List.length_cons, List.getElem?_cons_succ] at h
      exact tw_end l c h
    · simp only [Bool.not_eq_true] at hd
      simp only [List.takeWhile, hd, List.length_nil, List.getElem?_cons_zero] at h
      injection h with h
      rw [← h]; exact hd
theorem get_at {s : ByteArray} {i : Nat} (h : i < s.size) : s.data.toList[i]? = some s[i] := by
  have h' : i < s.data.toList.length := by simpa using h
  rw [List.getElem?_eq_getElem h']; rfl
theorem get_no {s : ByteArray} {i : Nat} (h : s.size ≤ i) : s.data.toList[i]? = none := List.getElem?_eq_none (by simpa using h)
theorem ext_drop (y : ByteArray) (k : Nat) : (y.extract k y.size).data.toList = y.data.toList.drop k := by
  rw [ByteArray.data_extract, Array.toList_extract, List.extract_eq_take_drop]
  have e2 : y.data.toList.length = y.size := by simp
  have : y.size - k = (y.data.toList.drop k).length := by rw [List.length_drop, e2]
  rw [this, List.take_length]
theorem ext_drop_size (y : ByteArray) (k : Nat) : (y.extract k y.size).size = y.size - k := by
  have h1 := ext_drop y k
  have e1 : (y.extract k y.size).data.toList.length = (y.extract k y.size).size := by simp
  have e2 : y.data.toList.length = y.size := by simp
  rw [h1, List.length_drop] at e1
  omega
theorem dig_range {c : UInt8} : isDig c = true ↔ (48 : Int) ≤ (c.toNat : Int) ∧ (c.toNat : Int) ≤ 57 := by
  unfold isDig; simp only [Bool.and_eq_true, decide_eq_true_eq]; omega
theorem toInt_neS {c d : UInt8} (h : c ≠ d) : ((c.toNat : Int) == (d.toNat : Int)) = false := by
  rw [beq_eq_false_iff_ne]; intro e; exact h (UInt8.toNat_inj.1 (by exact_mod_cast e))

set_option maxHeartbeats 2000000 in
set_option maxRecDepth 100000 in
theorem laSmallT_any (s : ByteArray) (w : World) (hs : s.size ≤ 9) (hd : s.data.toList.all isDig = true) :
    Calls Tryd.prog 55 #[.string s] w fun e w' => e = .returned (.int .i64 (dval s.data.toList : Int)) ∧ w' = w := by
  have HD := hideT' hd
  have e2 : s.data.toList.length = s.size := by simp
  have HL := hideT' e2
  clear hd e2
  go_enter Tryd.func55, Tryd.ntmps55
  go_wp2_with fail
  go_loopg [3, 4] s.size (fun g n i wr => ∃ (k : Nat) (x : Nat), g = s.size - k ∧ k ≤ s.size ∧ n = .int .i64 (x : Int) ∧ i = .int .i64 (k : Int) ∧ Hid (x = dval (s.data.toList.take k) ∧ x < 10 ^ k) ∧ wr = w)
  case atStart => exact ⟨0, 0, rfl, by omega, by go_num, by go_num, ⟨rfl, by decide⟩, rfl⟩
  case round =>
    obtain ⟨k, x, hg, hk, rfl, rfl, HX, rfl⟩ := hrel
    by_cases hlt : (k : Int) < (s.size : Int)
    · have hk' : k < s.size := by omega
      have hdg : isDig s[k] = true := by
        have h1 := get_at hk'
        have h2 := HD.out
        rw [List.all_eq_true] at h2
        exact h2 _ (List.mem_of_getElem? h1)
      have hr := dig_range.1 hdg
      have hx9 : x < 1000000000 := by
        have h1 := HX.out.2
        have h2 : 10 ^ k ≤ 10 ^ 9 := Nat.pow_le_pow_right (by decide) (by omega)
        omega
      obtain ⟨v, hv⟩ : ∃ v : Nat, v = s[k].toNat - 48 := ⟨_, rfl⟩
      have hvb : v ≤ 9 := by omega
      have hw1 : IntKind.u8.wrap ((s[k].toNat : Int) - 48) = (v : Int) := by
        have : IntKind.u8.wrap ((s[k].toNat : Int) - 48) = ((s[k].toNat : Int) - 48) % 256 := by simp [IntKind.wrap, IntKind.signed, IntKind.bits]
        rw [this]; omega
      have hw2 : IntKind.i64.wrap (10 * (x : Int)) = 10 * (x : Int) := by rw [IntKind.wrap_i64]; omega
      have hw3 : IntKind.i64.wrap (v : Int) = (v : Int) := by rw [IntKind.wrap_i64]; omega
      obtain ⟨y, hy⟩ : ∃ y : Nat, y = 10 * x + v := ⟨_, rfl⟩
      have hw4 : IntKind.i64.wrap (10 * (x : Int) + (v : Int)) = (y : Int) := by rw [IntKind.wrap_i64]; omega
      have HN : Hid (y = dval (s.data.toList.take (k + 1)) ∧ y < 10 ^ (k + 1)) := by
        have hgl : k < s.data.toList.length := by rw [HL.out]; exact hk'
        have hge : s.data.toList[k] = s[k] := rfl
        refine ⟨?_, by have := HX.out.2; rw [Nat.pow_succ]; omega⟩
        rw [List.take_succ_eq_append_getElem hgl, dval_snoc, ← HX.out.1, hge, hy, hv]
        unfold dv
        omega
      clear hdg hr hv hy hx9
      go_wp2
      go_roundg (s.size - (k + 1))
      case measure => omega
      case rel => exact ⟨k + 1, y, rfl, by omega, rfl, by go_num, HN, rfl⟩
    · have HE : Hid (x = dval s.data.toList) := by unfold Hid; rw [HX.out.1, List.take_of_length_le (by rw [HL.out]; omega)]
      go_wp2
      go_ret
      exact ⟨by rw [← HE.out]; rfl, rfl⟩

/-- What the model's reader answers. -/
def RdM (w : World) (o : Option (Lm × Nat)) (e : Ending) (w' : World) : Prop :=
  (o = none ∧ ∃ k n q m c, e = .returned (.tuple #[.agg (lcC k n (.slice q m c)), .int .i64 0])) ∨
  ∃ (t : Lm) (n : Nat) (z : Value), o = some (t, n) ∧ e = .returned (.tuple #[.agg (lcC t.kd t.nm z), .int .i64 (n : Int)]) ∧ LcIn w' (fun x => w.heap.size ≤ x) t z
def LcRd (d : Nat) : Prop := ∀ (s : ByteArray) (D : Int) (w : World), d ≤ 1000 → s.size ≤ 1048576 → D = 41 - (d : Int) →
    Calls Tryd.prog 32 #[.string s, .int .i64 D] w fun e w' => RdM w (rdM d s.data.toList) e w' ∧ Below w.heap.size w w'
theorem rdM_no0 (s : List UInt8) : rdM 0 s = none := by rw [rdM]
theorem rdM_nil (d : Nat) : rdM d [] = none := by cases d <;> rw [rdM]
theorem rdM_app1 {d : Nat} {c : UInt8} {r : List UInt8} (h92 : c ≠ 92) (h40 : c = 40) (h : rdM d r = none) : rdM (d + 1) (c :: r) = none := by rw [rdM, if_neg h92, if_pos h40, h]
theorem rdM_app2 {d : Nat} {c : UInt8} {r : List UInt8} {a : Lm} {n : Nat} (h92 : c ≠ 92) (h40 : c = 40) (h : rdM d r = some (a, n)) (hn : ¬ (c :: r)[n + 1]? = some 32) : rdM (d + 1) (c :: r) = none := by rw [rdM, if_neg h92, if_pos h40, h]; simp only; rw [if_neg hn]
theorem rdM_app3 {d : Nat} {c : UInt8} {r : List UInt8} {a : Lm} {n : Nat} (h92 : c ≠ 92) (h40 : c = 40) (h : rdM d r = some (a, n)) (hn : (c :: r)[n + 1]? = some 32) (h2 : rdM d ((c :: r).drop (n + 2)) = none) : rdM (d + 1) (c :: r) = none := by rw [rdM, if_neg h92, if_pos h40, h]; simp only; rw [if_pos hn, h2]
theorem rdM_app4 {d : Nat} {c : UInt8} {r : List UInt8} {a b : Lm} {n m : Nat} (h92 : c ≠ 92) (h40 : c = 40) (h : rdM d r = some (a, n)) (hn : (c :: r)[n + 1]? = some 32) (h2 : rdM d ((c :: r).drop (n + 2)) = some (b, m)) (hm : ¬ (c :: r)[n + 2 + m]? = some 41) : rdM (d + 1) (c :: r) = none := by rw [rdM, if_neg h92, if_pos h40, h]; simp only; rw [if_pos hn, h2]; simp only; rw [if_neg hm]
theorem rdM_app5 {d : Nat} {c : UInt8} {r : List UInt8} {a b : Lm} {n m : Nat} (h92 : c ≠ 92) (h40 : c = 40) (h : rdM d r = some (a, n)) (hn : (c :: r)[n + 1]? = some 32) (h2 : rdM d ((c :: r).drop (n + 2)) = some (b, m)) (hm : (c :: r)[n + 2 + m]? = some 41) : rdM (d + 1) (c :: r) = some (.app a b, n + 2 + m + 1) := by rw [rdM, if_neg h92, if_pos h40, h]; simp only; rw [if_pos hn, h2]; simp only; rw [if_pos hm]

set_option maxHeartbeats 8000000 in
set_option maxRecDepth 100000 in
theorem lcRead_none (d : Nat) (s : ByteArray) (D : Int) (w : World) (hD : D = 41 - (d : Int)) (h : d = 0 ∨ s.data.toList = []) :
    Calls Tryd.prog 32 #[.string s, .int .i64 D] w fun e w' => RdM w (rdM d s.data.toList) e w' ∧ Below w.heap.size w w' := by
  have hz := zero_lcT.1
  have HN : Hid (rdM d s.data.toList = none) := by
    unfold Hid
    rcases h with h | h
    · rw [h]; exact rdM_no0 _
    · rw [h]; exact rdM_nil _
  have HRZ := hideT' (RowAt.new w 48 (lcC 0 0 (.slice none 0 0)))
  have HB : Hid (Below w.heap.size w (w.alloc (.cells (lcC 0 0 (.slice none 0 0)) 48))) := (Below.refl _ _).alloc (Nat.le_refl _) _
  by_cases hD40 : (40 : Int) < D
  · clear h hD
    go_enter Tryd.func32, Tryd.ntmps32
    go_wp2
    exact bodyPost_ret (v := .tuple #[.agg (lcC 0 0 (.slice none 0 0)), .int .i64 0]) (res_lc_tmp Tryd.results32 _ _ w.heap.size 0 0 (.slice none 0 0) (.int .i64 0) rfl rfl HRZ.out) rfl ⟨.inl ⟨HN.out, _, _, _, _, _, rfl⟩, HB.out⟩
  · have hs : s.data.toList = [] := by rcases h with h | h; omega; exact h
    have he' : (s.toList == []) = true := str_eq hs
    clear h hD hs
    go_enter Tryd.func32, Tryd.ntmps32
    go_wp2
    exact bodyPost_ret (v := .tuple #[.agg (lcC 0 0 (.slice none 0 0)), .int .i64 0]) (res_lc_tmp Tryd.results32 _ _ w.heap.size 0 0 (.slice none 0 0) (.int .i64 0) rfl rfl HRZ.out) rfl ⟨.inl ⟨HN.out, _, _, _, _, _, rfl⟩, HB.out⟩

set_option maxHeartbeats 8000000 in
set_option maxRecDepth 100000 in
theorem lcRead_lam (d : Nat) (hd1000 : d ≤ 1000) (IH : LcRd d) (s : ByteArray) (D : Int) (w : World) (r : List UInt8) (hs : s.size ≤ 1048576) (hD : D = 41 - ((d + 1 : Nat) : Int)) (hl : s.data.toList = 92 :: r) :
    Calls Tryd.prog 32 #[.string s, .int .i64 D] w fun e w' => RdM w (rdM (d + 1) s.data.toList) e w' ∧ Below w.heap.size w w' := by
  have hz := zero_lcT.1
  have he' : (s.toList == []) = false := str_ne (by rw [hl]; simp)
  have e2 : s.data.toList.length = s.size := by simp
  rw [hl, List.length_cons] at e2
  have hp : 0 < s.size := by omega
  have hc0 : s[0] = 92 := by have := get_at hp; rw [hl] at this; injection this with this; exact this.symm
  have hb92 : ((s[0].toNat : Int) == 92) = true := by rw [hc0]; rfl
  have hyi : (1 : Int) ≤ (s.size : Int) := by omega
  have hye : (s.extract 1 s.size).data.toList = r := by rw [ext_drop, hl]; rfl
  have hyes := ext_drop_size s 1
  have hD40 : ¬ (40 : Int) < D := by omega
  obtain ⟨D1, hD1⟩ : ∃ D1, D1 = D + 1 := ⟨_, rfl⟩
  have hwD : IntKind.i64.wrap (D + 1) = D1 := by rw [IntKind.wrap_i64]; omega
  obtain ⟨W, hW⟩ : ∃ W, W = w.alloc (.cells #[.int .i64 0, .int .i64 0, .slice none 0 0] 48) := ⟨_, rfl⟩
  have hBW : Below w.heap.size w W := by rw [hW]; exact (Below.refl _ _).alloc (Nat.le_refl _) _
  have hWs : W.heap.size = w.heap.size + 1 := by rw [hW]; simp
  have HRW : Hid (RowAt W w.heap.size 48 #[.int .i64 0, .int .i64 0, .slice none 0 0]) := by rw [hW]; exact RowAt.new _ _ _
  have HC := hideT' (IH (s.extract 1 s.size) D1 W hd1000 (by omega) (by omega))
  rw [hye] at HC
  have HR : Hid (rdM (d + 1) s.data.toList = (rdM d r).map fun p => (.lam p.1, p.2 + 1)) := by unfold Hid; rw [hl, rdM, if_pos rfl]
  have HLEN : Hid (∀ t n, rdM d r = some (t, n) → 0 < n ∧ n ≤ 1048576) := fun t n h => by have := rdM_len d r t n h; omega
  have HB := hideT' hBW
  clear IH hD hD1 hl e2 hc0 hye hyes hBW
  go_enter Tryd.func32, Tryd.ntmps32
  go_wp2_with fail
  rw [← hW]
  refine HC.out.mono ?_
  rintro e w1 ⟨hans, hB1⟩
  have hs1 := hB1.size
  have HB1 : Hid (Below w.heap.size w w1) := HB.out.trans (hB1.mono (by omega))
  have HR1 : Hid (RowAt w1 w.heap.size 48 #[.int .i64 0, .int .i64 0, .slice none 0 0]) := HRW.out.below hB1 (by omega)
  clear hB1 hW
  rcases hans with ⟨hn, k, x, q, m, c, rfl⟩ | ⟨t, n, z, ho, rfl, hz1⟩
  · have HN : Hid (rdM (d + 1) s.data.toList = none) := by unfold Hid; rw [HR.out, hn]; rfl
    have HB2 : Hid (Below w.heap.size w (w1.alloc (.cells (lcC k x (.slice q m c)) 48))) := HB1.out.alloc HB1.out.size _
    unfold lcC at HB2
    clear hn
    unfold lcC
    go_wp2_with (refine store_3 rfl 48 _ _ rfl rfl zero_lcT.2 w.heap.size (lcC k x (.slice q m c)) rfl (lcC_one _ _ _ rfl) rfl rfl _ rfl (RowAt.old HR1.out _) ?_; intro w9 hR9 hg9 hs9)
    exact bodyPost_ret (v := .tuple #[.agg (lcC k x (.slice q m c)), .int .i64 0]) (res_lc_tmp Tryd.results32 _ _ w.heap.size k x (.slice q m c) (.int .i64 0) rfl rfl hR9) rfl ⟨.inl ⟨HN.out, _, _, _, _, _, rfl⟩, HB2.out.grown hg9 HB2.out.size (fun k e => by cases e; omega)⟩
  · have hnn := HLEN.out t n ho
    obtain ⟨hn0, hn1⟩ := hnn
    have HRES : Hid (rdM (d + 1) s.data.toList = some (.lam t, n + 1)) := by unfold Hid; rw [HR.out, ho]; rfl
    obtain ⟨oz, cz, hzz⟩ := hz1.form
    subst hzz
    obtain ⟨kd, hkd⟩ : ∃ kd, kd = t.kd := ⟨_, rfl⟩
    obtain ⟨nm, hnm⟩ : ∃ nm, nm = t.nm := ⟨_, rfl⟩
    obtain ⟨q, hq⟩ : ∃ q, q = t.kids.length := ⟨_, rfl⟩
    obtain ⟨W2, hW2⟩ : ∃ W2, W2 = w1.alloc (.cells #[.int .i64 kd, .int .i64 nm, .slice oz q cz] 48) := ⟨_, rfl⟩
    have hB2 : Below w1.heap.size w1 W2 := by rw [hW2]; exact (Below.refl _ _).alloc (Nat.le_refl _) _
    have HC2 := hideT' (lcLam_any t (.slice oz t.kids.length cz) _ W2 (LcIn.below hB2 hz1))
    rw [← hkd, ← hnm, ← hq] at HC2 ⊢
    have HR2 : Hid (RowAt W2 w.heap.size 48 #[.int .i64 0, .int .i64 0, .slice none 0 0]) := HR1.out.below hB2 (by omega)
    have HB2 : Hid (Below w.heap.size w W2) := HB1.out.trans (hB2.mono HB1.out.size)
    have hs2 := hB2.size
    have hn0b : ((n : Int) == 0) = false := by rw [beq_eq_false_iff_ne]; omega
    obtain ⟨n1, hn1e⟩ : ∃ n1 : Nat, n1 = n + 1 := ⟨_, rfl⟩
    have hwn : IntKind.i64.wrap ((n : Int) + 1) = (n1 : Int) := by rw [IntKind.wrap_i64]; omega
    rw [← hn1e] at HRES
    unfold lcC at HC2 ⊢
    clear ho hz1 hkd hnm hq hB2 hn1e
    go_wp2_with fail
    rw [← hW2]
    refine HC2.out.mono ?_
    rintro e w3 ⟨⟨z3, rfl, hz3⟩, hB3⟩
    obtain ⟨o3, c3, hzz3⟩ := hz3.form
    subst hzz3
    have HR3 : Hid (RowAt w3 w.heap.size 48 #[.int .i64 0, .int .i64 0, .slice none 0 0]) := HR2.out.below hB3 (by omega)
    have HB3 : Hid (Below w.heap.size w w3) := HB2.out.trans (hB3.mono HB2.out.size)
    have HZ3 := hideT' hz3
    have hs3 := hB3.size
    clear hz3 hB3 hW2
    simp only [Lm.kids, List.length_cons, List.length_nil] at HZ3 ⊢
    go_wp2_with (refine store_3 rfl 48 _ _ rfl rfl zero_lcT.2 w.heap.size (lcC 2 0 (.slice o3 1 c3)) rfl (lcC_one _ _ _ rfl) rfl rfl _ rfl HR3.out ?_; intro w9 hR9 hg9 hs9)
    refine bodyPost_ret (v := .tuple #[.agg (lcC 2 0 (.slice o3 1 c3)), .int .i64 (n1 : Int)]) (res_lc_tmp Tryd.results32 _ _ w.heap.size 2 0 (.slice o3 1 c3) (.int .i64 (n1 : Int)) rfl rfl hR9) rfl ⟨.inr ⟨.lam t, n1, .slice o3 1 c3, HRES.out, rfl, ?_⟩, HB3.out.grown hg9 HB3.out.size (fun k e => by cases e; omega)⟩
    exact LcIn.keep (w := w3) (by omega) (fun x hx hl => hg9.block x hl (by intro e; injection e with e; rcases hx with hx | hx <;> omega)) (fun x hx _ => by rcases hx with hx | hx <;> omega) HZ3.out
end Go.Proofs.YtgolfbjfopoeeaaDoor

/-
  lcRead of the model: numbers, applications, and all together.
-/
namespace Go.Proofs.YtgolfbjfopoeeaaDoor
open Go.RowKit BL
set_option linter.unusedVariables false

theorem lead_take (l : List UInt8) : (l.takeWhile isDig).take 2 = l.take ((l.takeWhile isDig).take 2).length := by
  have h := List.prefix_iff_eq_take.1 (List.takeWhile_prefix isDig (l := l))
  have h2 : ((l.takeWhile isDig).take 2) <+: l := (List.take_prefix 2 _).trans (List.takeWhile_prefix isDig)
  exact List.prefix_iff_eq_take.1 h2

set_option maxHeartbeats 8000000 in
set_option maxRecDepth 100000 in
theorem lcRead_num (d : Nat) (s : ByteArray) (D : Int) (w : World) (c : UInt8) (r : List UInt8) (hs : s.size ≤ 1048576) (hD : D = 41 - ((d + 1 : Nat) : Int)) (hl : s.data.toList = c :: r) (h92 : c ≠ 92) (h40 : c ≠ 40) :
    Calls Tryd.prog 32 #[.string s, .int .i64 D] w fun e w' => RdM w (rdM (d + 1) s.data.toList) e w' ∧ Below w.heap.size w w' := by
  have hz := zero_lcT.1
  have he' : (s.toList == []) = false := str_ne (by rw [hl]; simp)
  have e2 : s.data.toList.length = s.size := by simp
  have hp : 0 < s.size := by rw [← e2, hl]; simp
  have hc0 : s[0] = c := by have := get_at hp; rw [hl] at this; injection this with this; exact this.symm
  have hb92 : ((s[0].toNat : Int) == 92) = false := by rw [hc0]; exact toInt_neS (d := 92) h92
  have hb40 : ((s[0].toNat : Int) == 40) = false := by rw [hc0]; exact toInt_neS (d := 40) h40
  have hD40 : ¬ (40 : Int) < D := by omega
  obtain ⟨W, hW⟩ : ∃ W, W = w.alloc (.cells #[.int .i64 0, .int .i64 0, .slice none 0 0] 48) := ⟨_, rfl⟩
  have hBW : Below w.heap.size w W := by rw [hW]; exact (Below.refl _ _).alloc (Nat.le_refl _) _
  have hWs : W.heap.size = w.heap.size + 1 := by rw [hW]; simp
  have HRW : Hid (RowAt W w.heap.size 48 #[.int .i64 0, .int .i64 0, .slice none 0 0]) := by rw [hW]; exact RowAt.new _ _ _
  obtain ⟨ds, hds⟩ : ∃ ds, ds = (s.data.toList.takeWhile isDig).take 2 := ⟨_, rfl⟩
  obtain ⟨K, hK⟩ : ∃ K, K = ds.length := ⟨_, rfl⟩
  have hKt : K = min 2 (s.data.toList.takeWhile isDig).length := by rw [hK, hds, List.length_take]
  have htl : (s.data.toList.takeWhile isDig).length ≤ s.data.toList.length := by
    conv => rhs; rw [← take_drop_dig s.data.toList, List.length_append]
    omega
  have hKs : K ≤ s.size := by omega
  have hK2 : K ≤ 2 := by omega
  have HIN : Hid (∀ k (h : k < s.size), k < K → isDig s[k] = true) := fun k h hk => by
    obtain ⟨x, hx, hd⟩ := tw_get s.data.toList k (by omega)
    rw [get_at h] at hx
    injection hx with hx
    rw [hx]; exact hd
  have HOUT : Hid (∀ (h : K < s.size), K < 2 → isDig s[K] = false) := fun h hk => by
    refine tw_end s.data.toList _ ?_
    rw [show (s.data.toList.takeWhile isDig).length = K by omega]
    exact get_at h
  have hdt : ds = s.data.toList.take K := by rw [hK, hds]; exact lead_take _
  have HDS : Hid ((s.extract 0 K).data.toList = ds) := by
    unfold Hid
    rw [ByteArray.data_extract, Array.toList_extract, List.extract_eq_take_drop, hdt]
    simp
  have HDA : Hid (ds.all isDig = true) := by
    unfold Hid
    rw [hds, List.all_eq_true]
    intro z hz
    have h2 := take_all_dig s.data.toList
    rw [List.all_eq_true] at h2
    exact h2 z (List.mem_of_mem_take hz)
  have HR : Hid (rdM (d + 1) s.data.toList = if ds = [] then none else some (.var (dval ds : Int), K)) := by
    unfold Hid
    rw [hl] at hds
    rw [hl, rdM, if_neg h92, if_neg h40, ← hds, ← hK]
  have HK := hideT' hK
  have HB := hideT' hBW
  clear hD hl e2 hc0 hBW hds hKt htl hdt h92 h40 hK
  go_enter Tryd.func32, Tryd.ntmps32
  go_wp2_with fail
  rw [← hW]
  clear hW
  go_loopg [13] K (fun g i wr => ∃ (k : Nat), g = K - k ∧ k ≤ K ∧ i = .int .i64 (k : Int) ∧ W = wr)
  case atStart => exact ⟨0, rfl, by omega, by go_num, rfl⟩
  case round =>
    obtain ⟨k, hg, hk, rfl, rfl⟩ := hrel
    by_cases hlt : k < K
    · have hks : k < s.size := by omega
      have hki : (k : Int) < (s.size : Int) := by omega
      have hk2 : (k : Int) < 2 := by omega
      have hr := dig_range.1 (HIN.out k hks hlt)
      obtain ⟨hr1, hr2⟩ := hr
      go_wp2
      go_roundg (K - (k + 1))
      case measure => omega
      case rel => exact ⟨k + 1, rfl, by omega, by go_num, rfl⟩
    · have hkK : k = K := by omega
      subst hkK
      have hend : ∀ (Q : Prop), ((¬ (k : Int) < (s.size : Int)) → Q) → ((k : Int) < (s.size : Int) → ¬ (k : Int) < 2 → Q) → ((h : k < s.size) → (k : Int) < (s.size : Int) → (k : Int) < 2 → isDig s[k] = false → Q) → Q := fun Q q1 q2 q3 => by
        by_cases h1 : (k : Int) < (s.size : Int)
        · by_cases h2 : (k : Int) < 2
          · exact q3 (by omega) h1 h2 (HOUT.out (by omega) (by omega))
          · exact q2 h1 h2
        · exact q1 h1
      have HB2 := hideT' HB.out
      -- the last part, whatever ended the loop
      by_cases hK0 : k = 0
      · have HN : Hid (rdM (d + 1) s.data.toList = none) := by
          unfold Hid
          have h0 : ds = [] := List.length_eq_zero_iff.1 (by rw [← HK.out, hK0])
          rw [HR.out, if_pos h0]
        subst hK0
        have hdg := HOUT.out hp (by omega)
        have hn2 : ¬ ((48 : Int) ≤ (s[0].toNat : Int) ∧ (s[0].toNat : Int) ≤ 57) := fun h => by rw [dig_range.2 h] at hdg; cases hdg
        have hpi : (0 : Int) < (s.size : Int) := by omega
        have h02 : (0 : Int) < 2 := by omega
        clear hend hlt
        by_cases h48 : (48 : Int) ≤ (s[0].toNat : Int)
        · have h57 : ¬ (s[0].toNat : Int) ≤ 57 := fun h => hn2 ⟨h48, h⟩
          clear hn2 hdg
          go_wp2_with (refine store_3 rfl 48 _ _ rfl rfl zero_lcT.2 w.heap.size (lcC 0 0 (.slice none 0 0)) rfl (lcC_one _ _ _ rfl) rfl rfl _ rfl HRW.out ?_; intro w9 hR9 hg9 hs9)
          exact bodyPost_ret (v := .tuple #[.agg (lcC 0 0 (.slice none 0 0)), .int .i64 0]) (res_lc_tmp Tryd.results32 _ _ w.heap.size 0 0 (.slice none 0 0) (.int .i64 0) rfl rfl hR9) rfl ⟨.inl ⟨HN.out, _, _, _, _, _, rfl⟩, HB.out.grown hg9 HB.out.size (fun k e => by cases e; omega)⟩
        · clear hn2 hdg
          go_wp2_with (refine store_3 rfl 48 _ _ rfl rfl zero_lcT.2 w.heap.size (lcC 0 0 (.slice none 0 0)) rfl (lcC_one _ _ _ rfl) rfl rfl _ rfl HRW.out ?_; intro w9 hR9 hg9 hs9)
          exact bodyPost_ret (v := .tuple #[.agg (lcC 0 0 (.slice none 0 0)), .int .i64 0]) (res_lc_tmp Tryd.results32 _ _ w.heap.size 0 0 (.slice none 0 0) (.int .i64 0) rfl rfl hR9) rfl ⟨.inl ⟨HN.out, _, _, _, _, _, rfl⟩, HB.out.grown hg9 HB.out.size (fun k e => by cases e; omega)⟩
      · have hne : ds ≠ [] := fun e => hK0 (by rw [HK.out, e]; rfl)
        have hxs : (s.extract 0 k).size ≤ 9 := by
          have h1 : (s.extract 0 k).data.toList.length = (s.extract 0 k).size := by simp
          rw [HDS.out, ← HK.out] at h1
          omega
        have HC1 := hideT' (laSmallT_any (s.extract 0 k) W hxs (by rw [HDS.out]; exact HDA.out))
        rw [HDS.out] at HC1
        obtain ⟨v, hv⟩ : ∃ v : Int, v = (dval ds : Int) := ⟨_, rfl⟩
        rw [← hv] at HC1
        have HC2 := hideT' (lcVar_any v W)
        have HRES : Hid (rdM (d + 1) s.data.toList = some (.var v, k)) := by unfold Hid; rw [HR.out, if_neg hne, hv]
        have hk0i : ¬ (k : Int) = 0 := by omega
        have hk0b : ((k : Int) == 0) = false := by rw [beq_eq_false_iff_ne]; exact hk0i
        have hksi : (k : Int) ≤ (s.size : Int) := by omega
        clear hne hv hxs hlt
        unfold lcC at HC2
        have fin : Hid (∀ w3, Below W.heap.size W w3 → ∀ w9, RowAt w9 w.heap.size 48 (lcC 1 v (.slice none 0 0)) → w3.grownBy w9 (some w.heap.size) → RdM w (rdM (d + 1) s.data.toList) (.returned (.tuple #[.agg (lcC 1 v (.slice none 0 0)), .int .i64 (k : Int)])) w9 ∧ Below w.heap.size w w9) := fun w3 hB3 w9 hR9 hg9 =>
          ⟨.inr ⟨.var v, k, .slice none 0 0, HRES.out, rfl, none, 0, rfl⟩, (HB.out.trans (hB3.mono HB.out.size)).grown hg9 (by have := HB.out.size; have := hB3.size; omega) (fun k e => by cases e; omega)⟩
        refine hend _ ?_ ?_ ?_
        · intro h1
          clear hend
          go_wp2_with fail
          refine HC1.out.mono ?_
          rintro e w2 ⟨rfl, hw2⟩
          obtain rfl := hw2.symm
          go_wp2_with fail
          refine HC2.out.mono ?_
          rintro e w3 ⟨rfl, hB3⟩
          have HR3 : Hid (RowAt w3 w.heap.size 48 #[.int .i64 0, .int .i64 0, .slice none 0 0]) := HRW.out.below hB3 (by omega)
          have HB3 := hideT' hB3
          clear hB3
          go_wp2_with (refine store_3 rfl 48 _ _ rfl rfl zero_lcT.2 w.heap.size (lcC 1 v (.slice none 0 0)) rfl (lcC_one _ _ _ rfl) rfl rfl _ rfl HR3.out ?_; intro w9 hR9 hg9 hs9)
          exact bodyPost_ret (v := .tuple #[.agg (lcC 1 v (.slice none 0 0)), .int .i64 (k : Int)]) (res_lc_tmp Tryd.results32 _ _ w.heap.size 1 v (.slice none 0 0) (.int .i64 (k : Int)) rfl rfl hR9) rfl (fin.out _ HB3.out _ hR9 hg9)
        · intro h1 h2
          clear hend
          go_wp2_with fail
          refine HC1.out.mono ?_
          rintro e w2 ⟨rfl, hw2⟩
          obtain rfl := hw2.symm
          go_wp2_with fail
          refine HC2.out.mono ?_
          rintro e w3 ⟨rfl, hB3⟩
          have HR3 : Hid (RowAt w3 w.heap.size 48 #[.int .i64 0, .int .i64 0, .slice none 0 0]) := HRW.out.below hB3 (by omega)
          have HB3 := hideT' hB3
          clear hB3
          go_wp2_with (refine store_3 rfl 48 _ _ rfl rfl zero_lcT.2 w.heap.size (lcC 1 v (.slice none 0 0)) rfl (lcC_one _ _ _ rfl) rfl rfl _ rfl HR3.out ?_; intro w9 hR9 hg9 hs9)
          exact bodyPost_ret (v := .tuple #[.agg (lcC 1 v (.slice none 0 0)), .int .i64 (k : Int)]) (res_lc_tmp Tryd.results32 _ _ w.heap.size 1 v (.slice none 0 0) (.int .i64 (k : Int)) rfl rfl hR9) rfl (fin.out _ HB3.out _ hR9 hg9)
        · intro hks h1 h2 hdg
          have hn2 : ¬ ((48 : Int) ≤ (s[k].toNat : Int) ∧ (s[k].toNat : Int) ≤ 57) := fun h => by rw [dig_range.2 h] at hdg; cases hdg
          clear hend hdg
          by_cases h48 : (48 : Int) ≤ (s[k].toNat : Int)
          · have h57 : ¬ (s[k].toNat : Int) ≤ 57 := fun h => hn2 ⟨h48, h⟩
            clear hn2
            go_wp2_with fail
            refine HC1.out.mono ?_
            rintro e w2 ⟨rfl, hw2⟩
            obtain rfl := hw2.symm
            go_wp2_with fail
            refine HC2.out.mono ?_
            rintro e w3 ⟨rfl, hB3⟩
            have HR3 : Hid (RowAt w3 w.heap.size 48 #[.int .i64 0, .int .i64 0, .slice none 0 0]) := HRW.out.below hB3 (by omega)
            have HB3 := hideT' hB3
            clear hB3
            go_wp2_with (refine store_3 rfl 48 _ _ rfl rfl zero_lcT.2 w.heap.size (lcC 1 v (.slice none 0 0)) rfl (lcC_one _ _ _ rfl) rfl rfl _ rfl HR3.out ?_; intro w9 hR9 hg9 hs9)
            exact bodyPost_ret (v := .tuple #[.agg (lcC 1 v (.slice none 0 0)), .int .i64 (k : Int)]) (res_lc_tmp Tryd.results32 _ _ w.heap.size 1 v (.slice none 0 0) (.int .i64 (k : Int)) rfl rfl hR9) rfl (fin.out _ HB3.out _ hR9 hg9)
          · clear hn2
            go_wp2_with fail
            refine HC1.out.mono ?_
            rintro e w2 ⟨rfl, hw2⟩
            obtain rfl := hw2.symm
            go_wp2_with fail
            refine HC2.out.mono ?_
            rintro e w3 ⟨rfl, hB3⟩
            have HR3 : Hid (RowAt w3 w.heap.size 48 #[.int .i64 0, .int .i64 0, .slice none 0 0]) := HRW.out.below hB3 (by omega)
            have HB3 := hideT' hB3
            clear hB3
            go_wp2_with (refine store_3 rfl 48 _ _ rfl rfl zero_lcT.2 w.heap.size (lcC 1 v (.slice none 0 0)) rfl (lcC_one _ _ _ rfl) rfl rfl _ rfl HR3.out ?_; intro w9 hR9 hg9 hs9)
            exact bodyPost_ret (v := .tuple #[.agg (lcC 1 v (.slice none 0 0)), .int .i64 (k : Int)]) (res_lc_tmp Tryd.results32 _ _ w.heap.size 1 v (.slice none 0 0) (.int .i64 (k : Int)) rfl rfl hR9) rfl (fin.out _ HB3.out _ hR9 hg9)
end Go.Proofs.YtgolfbjfopoeeaaDoor

/-
  lcRead of the model: applications, and all together; ReadTerm of both sides.
-/
namespace Go.Proofs.YtgolfbjfopoeeaaDoor
open Go.RowKit BL
set_option linter.unusedVariables false

theorem toInt_eq {c : UInt8} {k : Nat} (h : (c.toNat : Int) = (k : Int)) (hk : k < 256) : c = UInt8.ofNat k := by
  apply UInt8.toNat_inj.1
  have : c.toNat = k := by exact_mod_cast h
  rw [this]; simp; omega
set_option maxHeartbeats 16000000 in
set_option maxRecDepth 100000 in
theorem lcRead_app (d : Nat) (hd1000 : d ≤ 1000) (IH : LcRd d) (s : ByteArray) (D : Int) (w : World) (r : List UInt8) (hs : s.size ≤ 1048576) (hD : D = 41 - ((d + 1 : Nat) : Int)) (hl : s.data.toList = 40 :: r) :
    Calls Tryd.prog 32 #[.string s, .int .i64 D] w fun e w' => RdM w (rdM (d + 1) s.data.toList) e w' ∧ Below w.heap.size w w' := by
  have hz := zero_lcT.1
  have he' : (s.toList == []) = false := str_ne (by rw [hl]; simp)
  have e2 : s.data.toList.length = s.size := by simp
  have hp : 0 < s.size := by rw [← e2, hl]; simp
  have hc0 : s[0] = 40 := by have := get_at hp; rw [hl] at this; injection this with this; exact this.symm
  have hb92 : ((s[0].toNat : Int) == 92) = false := by rw [hc0]; rfl
  have hb40 : ((s[0].toNat : Int) == 40) = true := by rw [hc0]; rfl
  have hyi : (1 : Int) ≤ (s.size : Int) := by omega
  have hye : (s.extract 1 s.size).data.toList = r := by rw [ext_drop, hl]; rfl
  have hyes := ext_drop_size s 1
  have hD40 : ¬ (40 : Int) < D := by omega
  obtain ⟨D1, hD1⟩ : ∃ D1, D1 = D + 1 := ⟨_, rfl⟩
  have hwD : IntKind.i64.wrap (D + 1) = D1 := by rw [IntKind.wrap_i64]; omega
  obtain ⟨W, hW⟩ : ∃ W, W = w.alloc (.cells #[.int .i64 0, .int .i64 0, .slice none 0 0] 48) := ⟨_, rfl⟩
  have hBW : Below w.heap.size w W := by rw [hW]; exact (Below.refl _ _).alloc (Nat.le_refl _) _
  have hWs : W.heap.size = w.heap.size + 1 := by rw [hW]; simp
  have HRW : Hid (RowAt W w.heap.size 48 #[.int .i64 0, .int .i64 0, .slice none 0 0]) := by rw [hW]; exact RowAt.new _ _ _
  have HC := hideT' (IH (s.extract 1 s.size) D1 W hd1000 (by omega) (by omega))
  rw [hye] at HC
  have HIH : Hid (∀ (x : ByteArray) (w' : World), x.size ≤ 1048576 → Calls Tryd.prog 32 #[.string x, .int .i64 D1] w' fun e w'' => RdM w' (rdM d x.data.toList) e w'' ∧ Below w'.heap.size w' w'') := fun x w' hx => IH x D1 w' hd1000 hx (by omega)
  have HLEN : Hid (∀ l t n, rdM d l = some (t, n) → 0 < n ∧ n ≤ l.length) := fun l t n h => by have := rdM_len d l t n h; omega
  have HL := hideT' hl
  have HE2 := hideT' e2
  have hrl : r.length + 1 = s.size := by rw [← e2, hl]; rfl
  have HRL := hideT' hrl
  have HSS := hideT' hs
  have HB := hideT' hBW
  clear IH hD hD1 hl e2 hc0 hye hyes hBW hrl hs
  go_enter Tryd.func32, Tryd.ntmps32
  go_wp2_with fail
  rw [← hW]
  refine HC.out.mono ?_
  rintro e w1 ⟨hans, hB1⟩
  have hs1 := hB1.size
  have HB1 : Hid (Below w.heap.size w w1) := HB.out.trans (hB1.mono (by omega))
  have HR1 : Hid (RowAt w1 w.heap.size 48 #[.int .i64 0, .int .i64 0, .slice none 0 0]) := HRW.out.below hB1 (by omega)
  clear hB1 hW
  rcases hans with ⟨hn, k, x, q, m, c, rfl⟩ | ⟨a, n, z, ho, rfl, hz1⟩
  · have HN : Hid (rdM (d + 1) s.data.toList = none) := by unfold Hid; rw [HL.out]; exact rdM_app1 (by decide) rfl hn
    have HB2 : Hid (Below w.heap.size w (w1.alloc (.cells (lcC k x (.slice q m c)) 48))) := HB1.out.alloc HB1.out.size _
    unfold lcC at HB2
    clear hn
    unfold lcC
    go_wp2_with (refine store_3 rfl 48 _ _ rfl rfl zero_lcT.2 w.heap.size (lcC 0 0 (.slice none 0 0)) rfl (lcC_one _ _ _ rfl) rfl rfl _ rfl (RowAt.old HR1.out _) ?_; intro w9 hR9 hg9 hs9)
    exact bodyPost_ret (v := .tuple #[.agg (lcC 0 0 (.slice none 0 0)), .int .i64 0]) (res_lc_tmp Tryd.results32 _ _ w.heap.size 0 0 (.slice none 0 0) (.int .i64 0) rfl rfl hR9) rfl ⟨.inl ⟨HN.out, _, _, _, _, _, rfl⟩, HB2.out.grown hg9 HB2.out.size (fun k e => by cases e; omega)⟩
  · have hnn := HLEN.out r a n ho
    obtain ⟨hn0, hn1⟩ := hnn
    have hns : n + 1 ≤ s.size := by have := HRL.out; omega
    have hnb : n ≤ 1048576 := by have := HSS.out; omega
    have HO := hideT' ho
    obtain ⟨oz, cz, hzz⟩ := hz1.form
    subst hzz
    have HZ1 := hideT' hz1
    obtain ⟨kd, hkd⟩ : ∃ kd, kd = a.kd := ⟨_, rfl⟩
    obtain ⟨nm, hnm⟩ : ∃ nm, nm = a.nm := ⟨_, rfl⟩
    obtain ⟨q, hq⟩ : ∃ q, q = a.kids.length := ⟨_, rfl⟩
    rw [← hkd, ← hnm, ← hq]
    have HA := hideT' (And.intro hkd (And.intro hnm hq))
    obtain ⟨W2, hW2⟩ : ∃ W2, W2 = w1.alloc (.cells #[.int .i64 kd, .int .i64 nm, .slice oz q cz] 48) := ⟨_, rfl⟩
    have hB2 : Below w1.heap.size w1 W2 := by rw [hW2]; exact (Below.refl _ _).alloc (Nat.le_refl _) _
    have HRA : Hid (RowAt W2 w1.heap.size 48 #[.int .i64 kd, .int .i64 nm, .slice oz q cz]) := by rw [hW2]; exact RowAt.new _ _ _
    have HR2 : Hid (RowAt W2 w.heap.size 48 #[.int .i64 0, .int .i64 0, .slice none 0 0]) := HR1.out.below hB2 (by omega)
    have HBL2 := hideT' hB2
    have HB2 : Hid (Below w.heap.size w W2) := HB1.out.trans (hB2.mono HB1.out.size)
    have hs2 : W2.heap.size = w1.heap.size + 1 := by rw [hW2]; simp
    have hn0b : ((n : Int) == 0) = false := by rw [beq_eq_false_iff_ne]; omega
    obtain ⟨m1, hm1⟩ : ∃ m1 : Nat, m1 = n + 1 := ⟨_, rfl⟩
    have hwm1 : IntKind.i64.wrap ((n : Int) + 1) = (m1 : Int) := by rw [IntKind.wrap_i64]; omega
    have HM1 := hideT' hm1
    clear ho hz1 hkd hnm hq hB2
    have no : ∀ (w2 : World), Hid (rdM (d + 1) s.data.toList = none) → Below w.heap.size w w2 → ∀ w9, RowAt w9 w.heap.size 48 (lcC 0 0 (.slice none 0 0)) → w2.grownBy w9 (some w.heap.size) → RdM w (rdM (d + 1) s.data.toList) (.returned (.tuple #[.agg (lcC 0 0 (.slice none 0 0)), .int .i64 0])) w9 ∧ Below w.heap.size w w9 := fun w2 hN hB w9 hR9 hg9 =>
      ⟨.inl ⟨hN.out, _, _, _, _, _, rfl⟩, hB.grown hg9 hB.size (fun k e => by cases e; omega)⟩
    have NO := hideT' no
    clear no
    by_cases hb1 : m1 < s.size
    · by_cases h32 : (s[m1].toNat : Int) = 32
      · have hb32 : ((s[m1].toNat : Int) == 32) = true := by rw [h32]; rfl
        have hn32 : ((s[m1].toNat : Int) != 32) = false := by rw [bne, hb32]; rfl
        have hm1i : ¬ (s.size : Int) ≤ (m1 : Int) := by omega
        have HG1 : Hid ((40 :: r)[n + 1]? = some 32) := by
          unfold Hid
          rw [← HL.out, ← hm1, get_at hb1]
          congr 1
          exact toInt_eq (k := 32) h32 (by decide)
        obtain ⟨m2, hm2⟩ : ∃ m2 : Nat, m2 = n + 2 := ⟨_, rfl⟩
        have hwm2 : IntKind.i64.wrap ((n : Int) + 2) = (m2 : Int) := by rw [IntKind.wrap_i64]; omega
        have hm2s : (m2 : Int) ≤ (s.size : Int) := by omega
        have hye : (s.extract m2 s.size).data.toList = (40 :: r).drop (n + 2) := by rw [ext_drop, HL.out, hm2]
        have hyes := ext_drop_size s m2
        have HC2 := hideT' (HIH.out (s.extract m2 s.size) W2 (by have := HSS.out; omega))
        rw [hye] at HC2
        have hdl : ((40 :: r).drop (n + 2)).length = s.size - m2 := by rw [List.length_drop, List.length_cons, HRL.out, hm2]
        have HDL := hideT' hdl
        have HM2 := hideT' hm2
        have hm2b : m2 ≤ 1048578 := by omega
        clear hye hyes h32 hdl
        have HLN2 : Hid (∀ t x, rdM d ((40 :: r).drop (n + 2)) = some (t, x) → 0 < x ∧ x ≤ s.size - m2) := fun t x h => by have := HLEN.out _ t x h; rw [HDL.out] at this; exact this
        clear hm1 hm2
        unfold lcC
        go_wp2_with fail
        rw [← hW2]
        refine HC2.out.mono ?_
        rintro e w3 ⟨hans, hB3⟩
        have hs3 := hB3.size
        have HR3 : Hid (RowAt w3 w.heap.size 48 #[.int .i64 0, .int .i64 0, .slice none 0 0]) := HR2.out.below hB3 (by omega)
        have HRA3 : Hid (RowAt w3 w1.heap.size 48 #[.int .i64 kd, .int .i64 nm, .slice oz q cz]) := HRA.out.below hB3 (by omega)
        have HBL3 := hideT' hB3
        have HB3 : Hid (Below w.heap.size w w3) := HB2.out.trans (hB3.mono HB2.out.size)
        clear hB3 hW2
        rcases hans with ⟨hn, k, x, q', m', c', rfl⟩ | ⟨b, x, zb, ho2, rfl, hz3⟩
        · have HN : Hid (rdM (d + 1) s.data.toList = none) := by unfold Hid; rw [HL.out]; exact rdM_app3 (by decide) rfl HO.out HG1.out hn
          have HB4 : Hid (Below w.heap.size w (w3.alloc (.cells (lcC k x (.slice q' m' c')) 48))) := HB3.out.alloc HB3.out.size _
          unfold lcC at HB4
          have hw0 : IntKind.i64.wrap ((m2 : Int) + 0) = (m2 : Int) := by rw [IntKind.wrap_i64]; omega
          clear hn
          unfold lcC
          go_wp2_with (refine store_3 rfl 48 _ _ rfl rfl zero_lcT.2 w.heap.size (lcC 0 0 (.slice none 0 0)) rfl (lcC_one _ _ _ rfl) rfl rfl _ rfl (RowAt.old HR3.out _) ?_; intro w9 hR9 hg9 hs9)
          exact bodyPost_ret (v := .tuple #[.agg (lcC 0 0 (.slice none 0 0)), .int .i64 0]) (res_lc_tmp Tryd.results32 _ _ w.heap.size 0 0 (.slice none 0 0) (.int .i64 0) rfl rfl hR9) rfl (NO.out _ HN HB4.out _ hR9 hg9)
        · have hxx := HLN2.out b x ho2
          obtain ⟨hx0, hx1⟩ := hxx
          have HO2 := hideT' ho2
          obtain ⟨ob, cb, hzz⟩ := hz3.form
          subst hzz
          have HZ3 := hideT' hz3
          obtain ⟨kb, hkb⟩ : ∃ kb, kb = b.kd := ⟨_, rfl⟩
          obtain ⟨nb, hnb'⟩ : ∃ nb, nb = b.nm := ⟨_, rfl⟩
          obtain ⟨qb, hqb⟩ : ∃ qb, qb = b.kids.length := ⟨_, rfl⟩
          rw [← hkb, ← hnb', ← hqb]
          have HBB := hideT' (And.intro hkb (And.intro hnb' hqb))
          have hx0b : ((x : Int) == 0) = false := by rw [beq_eq_false_iff_ne]; omega
          obtain ⟨E, hE⟩ : ∃ E : Nat, E = m2 + x := ⟨_, rfl⟩
          have hss2 := HSS.out
          have hwE : IntKind.i64.wrap ((m2 : Int) + (x : Int)) = (E : Int) := by rw [IntKind.wrap_i64]; omega
          obtain ⟨E1, hE1⟩ : ∃ E1 : Nat, E1 = E + 1 := ⟨_, rfl⟩
          have hwE1 : IntKind.i64.wrap ((E : Int) + 1) = (E1 : Int) := by rw [IntKind.wrap_i64]; omega
          have HEE : Hid (E = n + 2 + x ∧ E1 = n + 2 + x + 1) := by have := HM2.out; exact ⟨by omega, by omega⟩
          obtain ⟨W4, hW4⟩ : ∃ W4, W4 = w3.alloc (.cells #[.int .i64 kb, .int .i64 nb, .slice ob qb cb] 48) := ⟨_, rfl⟩
          have hB4 : Below w3.heap.size w3 W4 := by rw [hW4]; exact (Below.refl _ _).alloc (Nat.le_refl _) _
          have HR4 : Hid (RowAt W4 w.heap.size 48 #[.int .i64 0, .int .i64 0, .slice none 0 0]) := HR3.out.below hB4 (by omega)
          have HRA4 : Hid (RowAt W4 w1.heap.size 48 #[.int .i64 kd, .int .i64 nm, .slice oz q cz]) := HRA3.out.below hB4 (by omega)
          have HRB4 : Hid (RowAt W4 w3.heap.size 48 #[.int .i64 kb, .int .i64 nb, .slice ob qb cb]) := by rw [hW4]; exact RowAt.new _ _ _
          have HB4 : Hid (Below w.heap.size w W4) := HB3.out.trans (hB4.mono HB3.out.size)
          have HZA : Hid (LcIn W4 (fun y => W.heap.size ≤ y) a (.slice oz a.kids.length cz)) := by
            have k1 := HBL2.out
            have k2 := HBL3.out
            have hall : Below w1.heap.size w1 W4 := (k1.trans (k2.mono k1.size)).trans (hB4.mono (by have := k1.size; omega))
            exact LcIn.keep (w := w1) hall.size (fun y _ hy => hall.block y hy) (fun y hy _ => hy) HZ1.out
          have HZB : Hid (LcIn W4 (fun y => W.heap.size ≤ y) b (.slice ob b.kids.length cb)) := LcIn.keep (w := w3) hB4.size (fun y _ hy => hB4.block y hy) (fun y hy _ => by have hy : W2.heap.size ≤ y := hy; omega) HZ3.out
          clear ho2 hz3 hkb hnb' hqb hB4
          by_cases hbE : E < s.size
          · by_cases h41 : (s[E].toNat : Int) = 41
            · have hb41 : ((s[E].toNat : Int) == 41) = true := by rw [h41]; rfl
              have hn41 : ((s[E].toNat : Int) != 41) = false := by rw [bne, hb41]; rfl
              have hEi : ¬ (s.size : Int) ≤ (E : Int) := by omega
              have HRES : Hid (rdM (d + 1) s.data.toList = some (.app a b, E1)) := by
                unfold Hid
                rw [HL.out, HEE.out.2]
                refine rdM_app5 (by decide) rfl HO.out HG1.out HO2.out ?_
                rw [← HL.out, ← HEE.out.1, get_at hbE]
                congr 1
                exact toInt_eq (k := 41) h41 (by decide)
              have HC4 := hideT' (lcApp_any a b _ _ _ W4 HZA.out HZB.out)
              rw [← HA.out.1, ← HA.out.2.1, ← HA.out.2.2, ← HBB.out.1, ← HBB.out.2.1, ← HBB.out.2.2] at HC4
              have a0 : W4.cell? ⟨w1.heap.size, 0, none⟩ = some (.int .i64 kd) := by rw [cell_of_row _ _ _ _ _ _ HRA4.out]; rfl
              have a1 : W4.cell? ⟨w1.heap.size, 1, none⟩ = some (.int .i64 nm) := by rw [cell_of_row _ _ _ _ _ _ HRA4.out]; rfl
              have a2 : W4.cell? ⟨w1.heap.size, 2, none⟩ = some (.slice oz q cz) := by rw [cell_of_row _ _ _ _ _ _ HRA4.out]; rfl
              have hal : W4 = w3.alloc (.cells #[.int .i64 kb, .int .i64 nb, .slice ob qb cb] 48) := hW4
              unfold lcC at HC4 ⊢
              clear h41 hE hE1 hW4
              rw [hal] at a0 a1 a2
              go_wp2_with fail
              rw [← hal]
              refine HC4.out.mono ?_
              rintro e w5 ⟨⟨z5, rfl, hz5⟩, hB5⟩
              obtain ⟨o5, c5, hzz5⟩ := hz5.form
              subst hzz5
              have HR5 : Hid (RowAt w5 w.heap.size 48 #[.int .i64 0, .int .i64 0, .slice none 0 0]) := HR4.out.below hB5 (by have := HB4.out.size; have := HBL3.out.size; have := HBL2.out.size; have := HB1.out.size; have h9 := HR4.out.lt; exact h9)
              have HB5 : Hid (Below w.heap.size w w5) := HB4.out.trans (hB5.mono HB4.out.size)
              have HZ5 := hideT' hz5
              clear hz5 hB5 hal a0 a1 a2
              simp only [Lm.kids, List.length_cons, List.length_nil] at HZ5 ⊢
              go_wp2_with (refine store_3 rfl 48 _ _ rfl rfl zero_lcT.2 w.heap.size (lcC 3 0 (.slice o5 2 c5)) rfl (lcC_one _ _ _ rfl) rfl rfl _ rfl HR5.out ?_; intro w9 hR9 hg9 hs9)
              refine bodyPost_ret (v := .tuple #[.agg (lcC 3 0 (.slice o5 2 c5)), .int .i64 (E1 : Int)]) (res_lc_tmp Tryd.results32 _ _ w.heap.size 3 0 (.slice o5 2 c5) (.int .i64 (E1 : Int)) rfl rfl hR9) rfl ⟨.inr ⟨.app a b, E1, .slice o5 2 c5, HRES.out, rfl, ?_⟩, HB5.out.grown hg9 HB5.out.size (fun k e => by cases e; omega)⟩
              have h4s := HR4.out.lt
              have h5s := HB5.out.size
              exact LcIn.keep (w := w5) (by omega) (fun y hy hl => hg9.block y hl (by intro e; injection e with e; rcases hy with hy | hy <;> omega)) (fun y hy _ => by rcases hy with hy | hy <;> omega) HZ5.out
            · have hb41 : ((s[E].toNat : Int) == 41) = false := by rw [beq_eq_false_iff_ne]; exact h41
              have hn41 : ((s[E].toNat : Int) != 41) = true := by rw [bne, hb41]; rfl
              have hEi : ¬ (s.size : Int) ≤ (E : Int) := by omega
              have HN : Hid (rdM (d + 1) s.data.toList = none) := by
                unfold Hid
                rw [HL.out]
                refine rdM_app4 (by decide) rfl HO.out HG1.out HO2.out ?_
                rw [← HL.out, ← HEE.out.1, get_at hbE]
                intro e
                injection e with e
                apply h41
                rw [e]; rfl
              unfold lcC
              clear hE hE1
              go_wp2_with (refine store_3 rfl 48 _ _ rfl rfl zero_lcT.2 w.heap.size (lcC 0 0 (.slice none 0 0)) rfl (lcC_one _ _ _ rfl) rfl rfl _ rfl (RowAt.old HR3.out _) ?_; intro w9 hR9 hg9 hs9)
              rw [← hW4] at hg9
              exact bodyPost_ret (v := .tuple #[.agg (lcC 0 0 (.slice none 0 0)), .int .i64 0]) (res_lc_tmp Tryd.results32 _ _ w.heap.size 0 0 (.slice none 0 0) (.int .i64 0) rfl rfl hR9) rfl (NO.out _ HN HB4.out _ hR9 hg9)
          · have hEi : (s.size : Int) ≤ (E : Int) := by omega
            have hEn : s.size ≤ E := by omega
            have hEb : decide ((s.size : Int) ≤ (E : Int)) = true := decide_eq_true hEi
            have HN : Hid (rdM (d + 1) s.data.toList = none) := by
              unfold Hid
              rw [HL.out]
              refine rdM_app4 (by decide) rfl HO.out HG1.out HO2.out ?_
              rw [← HL.out, ← HEE.out.1, get_no (by omega)]
              simp
            unfold lcC
            clear hE hE1 hbE
            go_wp2_with (refine store_3 rfl 48 _ _ rfl rfl zero_lcT.2 w.heap.size (lcC 0 0 (.slice none 0 0)) rfl (lcC_one _ _ _ rfl) rfl rfl _ rfl (RowAt.old HR3.out _) ?_; intro w9 hR9 hg9 hs9)
            rw [← hW4] at hg9
            exact bodyPost_ret (v := .tuple #[.agg (lcC 0 0 (.slice none 0 0)), .int .i64 0]) (res_lc_tmp Tryd.results32 _ _ w.heap.size 0 0 (.slice none 0 0) (.int .i64 0) rfl rfl hR9) rfl (NO.out _ HN HB4.out _ hR9 hg9)
      · have hb32 : ((s[m1].toNat : Int) == 32) = false := by rw [beq_eq_false_iff_ne]; exact h32
        have hn32 : ((s[m1].toNat : Int) != 32) = true := by rw [bne, hb32]; rfl
        have hm1i : ¬ (s.size : Int) ≤ (m1 : Int) := by omega
        have HN : Hid (rdM (d + 1) s.data.toList = none) := by
          unfold Hid
          rw [HL.out]
          refine rdM_app2 (by decide) rfl HO.out ?_
          rw [← HL.out, ← hm1, get_at hb1]
          intro e
          injection e with e
          apply h32
          rw [e]; rfl
        unfold lcC
        clear hm1
        go_wp2_with (refine store_3 rfl 48 _ _ rfl rfl zero_lcT.2 w.heap.size (lcC 0 0 (.slice none 0 0)) rfl (lcC_one _ _ _ rfl) rfl rfl _ rfl (RowAt.old HR1.out _) ?_; intro w9 hR9 hg9 hs9)
        rw [← hW2] at hg9
        exact bodyPost_ret (v := .tuple #[.agg (lcC 0 0 (.slice none 0 0)), .int .i64 0]) (res_lc_tmp Tryd.results32 _ _ w.heap.size 0 0 (.slice none 0 0) (.int .i64 0) rfl rfl hR9) rfl (NO.out _ HN HB2.out _ hR9 hg9)
    · have hm1i : (s.size : Int) ≤ (m1 : Int) := by omega
      have hm1n : s.size ≤ m1 := by omega
      have hm1b : decide ((s.size : Int) ≤ (m1 : Int)) = true := decide_eq_true hm1i
      have HN : Hid (rdM (d + 1) s.data.toList = none) := by
        unfold Hid
        rw [HL.out]
        refine rdM_app2 (by decide) rfl HO.out ?_
        rw [← HL.out, ← hm1, get_no (by omega)]
        simp
      unfold lcC
      clear hm1 hb1
      go_wp2_with (refine store_3 rfl 48 _ _ rfl rfl zero_lcT.2 w.heap.size (lcC 0 0 (.slice none 0 0)) rfl (lcC_one _ _ _ rfl) rfl rfl _ rfl (RowAt.old HR1.out _) ?_; intro w9 hR9 hg9 hs9)
      rw [← hW2] at hg9
      exact bodyPost_ret (v := .tuple #[.agg (lcC 0 0 (.slice none 0 0)), .int .i64 0]) (res_lc_tmp Tryd.results32 _ _ w.heap.size 0 0 (.slice none 0 0) (.int .i64 0) rfl rfl hR9) rfl (NO.out _ HN HB2.out _ hR9 hg9)
theorem lcRead_all : ∀ d, LcRd d := by
  intro d
  induction d with
  | zero => intro s D w _ _ hD; exact lcRead_none 0 s D w hD (.inl rfl)
  | succ d ih =>
    intro s D w hd hs hD
    cases hl : s.data.toList with
    | nil => have := lcRead_none (d + 1) s D w hD (.inr hl); rw [hl] at this; exact this
    | cons c r =>
      rw [← hl]
      by_cases h92 : c = 92
      · subst h92; exact lcRead_lam d (by omega) ih s D w r hs hD hl
      · by_cases h40 : c = 40
        · subst h40; exact lcRead_app d (by omega) ih s D w r hs hD hl
        · exact lcRead_num d s D w c r hs hD hl h92 h40
end Go.Proofs.YtgolfbjfopoeeaaDoor
