/-
  What lcFlat and lcTold of the model answer.
-/
import Derived.Test.YtgolfbjfopoeeaaDoorSpecTree
import Derived.Test.YtgolfbjfopoeeaaDoorSpecGoodT
import Derived.Test.YtgolfbjfopoeeaaDoorImplTell
namespace Go.Proofs.YtgolfbjfopoeeaaDoor
open Go.RowKit BL
set_option linter.unusedVariables false

/-- The nodes of a tree behind others, as the model lays them: no more than are too many. -/
def flatC : List Nd → Lm → Int → List Nd
  | l, .var n, up => l ++ [⟨1, n, up⟩]
  | l, .lam t, up => if (l ++ [(⟨2, 0, up⟩ : Nd)]).length ≤ 150 then flatC (l ++ [⟨2, 0, up⟩]) t (l.length : Int) else l ++ [⟨2, 0, up⟩]
  | l, .app s t, up =>
    if (if (l ++ [(⟨3, 0, up⟩ : Nd)]).length ≤ 150 then flatC (l ++ [⟨3, 0, up⟩]) s (l.length : Int) else l ++ [⟨3, 0, up⟩]).length ≤ 150
    then flatC (if (l ++ [(⟨3, 0, up⟩ : Nd)]).length ≤ 150 then flatC (l ++ [⟨3, 0, up⟩]) s (l.length : Int) else l ++ [⟨3, 0, up⟩]) t (l.length : Int)
    else if (l ++ [(⟨3, 0, up⟩ : Nd)]).length ≤ 150 then flatC (l ++ [⟨3, 0, up⟩]) s (l.length : Int) else l ++ [⟨3, 0, up⟩]
/-- One part more. -/
def partC (k : Int) (l : List Nd) (s : Lm) : List Nd := if l.length ≤ 150 then flatC l s k else l
theorem flatC_kids (l : List Nd) (t : Lm) (up : Int) : flatC l t up = t.kids.foldl (partC (l.length : Int)) (l ++ [⟨t.kd, t.nm, up⟩]) := by
  cases t <;> rfl
theorem flatC_spec : ∀ (t : Lm) (l : List Nd) (up : Int), l.length ≤ 150 → (l.length + t.sz ≤ 150 → flatC l t up = l ++ t.flat l.length up) ∧ (150 < l.length + t.sz → 150 < (flatC l t up).length) ∧ (flatC l t up).length ≤ 151
  | .var n, l, up, h => by
    refine ⟨fun _ => rfl, fun h2 => ?_, ?_⟩
    · simp only [flatC, List.length_append, List.length_singleton, Lm.sz] at h2 ⊢; omega
    · simp only [flatC, List.length_append, List.length_singleton]; omega
  | .lam t, l, up, h => by
    have hl : (l ++ [(⟨2, 0, up⟩ : Nd)]).length = l.length + 1 := by simp
    have := t.sz_pos
    by_cases h1 : l.length + 1 ≤ 150
    · have ih := flatC_spec t (l ++ [⟨2, 0, up⟩]) (l.length : Int) (by omega)
      rw [hl] at ih
      have e : flatC l (.lam t) up = flatC (l ++ [⟨2, 0, up⟩]) t (l.length : Int) := by rw [flatC, if_pos (by omega)]
      rw [e]
      refine ⟨fun h2 => ?_, fun h2 => ih.2.1 (by simp only [Lm.sz] at h2; omega), ih.2.2⟩
      rw [ih.1 (by simp only [Lm.sz] at h2; omega), Lm.flat]
      simp
    · have e : flatC l (.lam t) up = l ++ [⟨2, 0, up⟩] := by rw [flatC, if_neg (by omega)]
      rw [e, hl]
      refine ⟨fun h2 => ?_, fun _ => by omega, by omega⟩
      simp only [Lm.sz] at h2; omega
  | .app s t, l, up, h => by
    have hl : (l ++ [(⟨3, 0, up⟩ : Nd)]).length = l.length + 1 := by simp
    have := s.sz_pos
    have := t.sz_pos
    by_cases h1 : l.length + 1 ≤ 150
    · have ih := flatC_spec s (l ++ [⟨3, 0, up⟩]) (l.length : Int) (by omega)
      rw [hl] at ih
      obtain ⟨m, hm⟩ : ∃ m, m = flatC (l ++ [⟨3, 0, up⟩]) s (l.length : Int) := ⟨_, rfl⟩
      have e : flatC l (.app s t) up = if m.length ≤ 150 then flatC m t (l.length : Int) else m := by rw [flatC, if_pos (show (l ++ [(⟨3, 0, up⟩ : Nd)]).length ≤ 150 by omega), ← hm]
      rw [← hm] at ih
      rw [e]
      by_cases h2 : m.length ≤ 150
      · rw [if_pos h2]
        have hfit : l.length + 1 + s.sz ≤ 150 := by
          rcases Nat.lt_or_ge 150 (l.length + 1 + s.sz) with h3 | h3
          · have := ih.2.1 h3; omega
          · omega
        have hme := ih.1 hfit
        have hml : m.length = l.length + 1 + s.sz := by rw [hme, List.length_append, hl, Lm.flat_sz]
        have ih2 := flatC_spec t m (l.length : Int) h2
        refine ⟨fun h3 => ?_, fun h3 => ih2.2.1 (by simp only [Lm.sz] at h3; omega), ih2.2.2⟩
        rw [ih2.1 (by simp only [Lm.sz] at h3; omega), Lm.flat, hml, hme]
        simp
      · rw [if_neg h2]
        refine ⟨fun h3 => ?_, fun _ => by omega, ih.2.2⟩
        exfalso
        simp only [Lm.sz] at h3
        have := ih.1 (by omega)
        rw [this, List.length_append, hl, Lm.flat_sz] at h2
        omega
    · have e : flatC l (.app s t) up = l ++ [⟨3, 0, up⟩] := by rw [flatC, if_neg (show ¬ (l ++ [(⟨3, 0, up⟩ : Nd)]).length ≤ 150 by omega), if_neg (by omega)]
      rw [e, hl]
      refine ⟨fun h2 => ?_, fun _ => by omega, by omega⟩
      simp only [Lm.sz] at h2; omega
theorem goodS_flatC (t : Lm) : goodS (flatC [] t (-1)) = t.good := by
  have h := flatC_spec t [] (-1) (by simp)
  simp only [List.length_nil, Nat.zero_add, List.nil_append] at h
  rcases Nat.lt_or_ge 150 t.sz with h1 | h1
  · have h2 := h.2.1 h1
    rw [goodS_short (by simp; omega)]
    unfold Lm.good
    rw [decide_eq_false (show ¬ t.sz ≤ 150 by omega)]; simp
  · rw [h.1 h1]; exact goodS_flat t
/-- The same as the program tells. -/
theorem flatC_told (t : Lm) (h : t.good = true) : flatC [] t (-1) = t.flat 0 (-1) := by
  have h1 := flatC_spec t [] (-1) (by simp)
  simp only [List.length_nil, Nat.zero_add, List.nil_append] at h1
  exact h1.1 (Lm.good_sz h).1
theorem partC_len {k : Int} {l : List Nd} {s : Lm} (h : l.length ≤ 151) : (partC k l s).length ≤ 151 := by
  unfold partC
  split
  · next h1 => exact (flatC_spec s l k h1).2.2
  · exact h

/-- What lcFlat does: the row stays the caller's own, all else but new memory stays. -/
def FlatC (N : Nat) : Prop := ∀ (t : Lm), t.sz ≤ N → ∀ (l : List Nd) (v : Value) (up : Int) (z : Value) (P : Nat → Prop) (B : Nat) (w : World), l.length ≤ 150 → B ≤ w.heap.size → OwnR w B v 51 termL 3 (tri l) → LcIn w P t z → (∀ b, P b → v.ownBlock ≠ some b) →
    Calls Tryd.prog 56 #[v, .agg (lcC t.kd t.nm z), .int .i64 up] w fun e w' => (∃ u, e = .returned u ∧ OwnR w' B u 51 termL 3 (tri (flatC l t up)) ∧ (∀ b, u.ownBlock = some b → v.ownBlock = some b ∨ w.heap.size ≤ b)) ∧ w.grownBy w' v.ownBlock
theorem tri_app (a b : List Nd) : tri (a ++ b) = tri a ++ tri b := by simp [tri]

set_option maxHeartbeats 8000000 in
set_option maxRecDepth 100000 in
theorem lcFlat_step (N : Nat) (IH : ∀ n, n < N → FlatC n) : FlatC N := by
  intro t ht l v up z P B w hl hBw hv hz hPv
  have HIH := hideT' IH
  have HTN := hideT' ht
  obtain ⟨ov, cv, hvv⟩ := own_formT hv
  rw [tri_len] at hvv
  subst hvv
  obtain ⟨oz, cz, hzz, _⟩ := hz.parts
  have HPV := hideT' hPv
  have HZ := hideT' hz
  obtain ⟨m, hm⟩ : ∃ m, m = t.kids.length := ⟨_, rfl⟩
  have hm2 : m ≤ 2 := by rw [hm]; cases t <;> simp [Lm.kids]
  rw [← hm] at hzz
  subst hzz
  have HM := hideT' hm
  obtain ⟨kd, hkd⟩ : ∃ kd, kd = t.kd := ⟨_, rfl⟩
  obtain ⟨nm, hnm⟩ : ∃ nm, nm = t.nm := ⟨_, rfl⟩
  rw [← hkd, ← hnm]
  have HKN := hideT' (And.intro hkd hnm)
  have HV : Hid (w.ownsRow B 51 3 (.slice ov l.length cv) l.length ((tri l).flatMap termL)) := by unfold Hid; have := hv; unfold OwnR at this; rw [tri_len] at this; exact this
  obtain ⟨n, hn⟩ : ∃ n, n = l.length := ⟨_, rfl⟩
  have HNN := hideT' hn
  rw [← hn] at hl HV HPV ⊢
  clear IH ht hv hz hPv hm hkd hnm hn
  have hz0 := zero_lcT.1
  have hzt := zero_term.1
  obtain ⟨i0, hi, hzz0, hzz1, hzz2⟩ := info_parts info_term
  show Calls Tryd.prog 56 #[.slice ov n cv, .agg #[.int .i64 kd, .int .i64 nm, .slice oz m cz], .int .i64 up] w _
  have HTC : Hid (∀ j u, (termL (kd, nm, up))[j]? = some u → ((w.alloc (.cells #[.int .i64 kd, .int .i64 nm, .slice oz m cz] 48)).alloc (.cells #[.int .i64 kd, .int .i64 nm, .int .i64 up] 51)).cell? ((⟨w.heap.size + 1, 0, none⟩ : Addr).add j) = some u) := by
    have := term_cells (w.alloc (.cells #[.int .i64 kd, .int .i64 nm, .slice oz m cz] 48)) (kd, nm, up)
    rw [World.size_alloc] at this
    exact this
  have HRT : Hid (RowAt ((w.alloc (.cells #[.int .i64 kd, .int .i64 nm, .slice oz m cz] 48)).alloc (.cells #[.int .i64 kd, .int .i64 nm, .int .i64 up] 51)) w.heap.size 48 #[.int .i64 kd, .int .i64 nm, .slice oz m cz]) := RowAt.old (RowAt.new _ _ _) _
  have HBA : Hid (Below w.heap.size w ((w.alloc (.cells #[.int .i64 kd, .int .i64 nm, .slice oz m cz] 48)).alloc (.cells #[.int .i64 kd, .int .i64 nm, .int .i64 up] 51))) := ((Below.refl _ _).alloc (Nat.le_refl _) _).alloc (by simp) _
  have HOB : Hid (∀ b, (Value.slice ov n cv).ownBlock = some b → B ≤ b ∧ b < w.heap.size) := fun b hb => HV.out.lt b hb
  go_enter Tryd.func56, Tryd.ntmps56
  go_wp2_with (at_builtin; refine append_own3 _ rfl _ _ 26 rfl B 51 i0 (.agg #[.int .i64 0, .int .i64 0, .int .i64 0]) 3 24 Tryd.underlying26 hi hzz0 hzz1 hzz2 rfl (by decide) (.slice ov n cv) n _ rfl ((HV.out.alloc _).alloc _) ⟨w.heap.size + 1, 0, none⟩ 1 1 (termL (kd, nm, up)) rfl rfl HTC.out (termL_one _) (by omega) (by unfold maxLen; omega) (by omega) (by simp; omega) ?_; intro v6 w6 hv6 hg6 hb6; obtain ⟨o6, c6, rfl⟩ := own_formT hv6; have f2 : w6.cell? ⟨w.heap.size, 2, none⟩ = some (.slice oz m cz) := (by rw [cell_of_row _ _ _ _ _ _ (HRT.out.grown hg6 (fun e => by have := (HOB.out _ e.symm).2; omega))]; rfl); have HV6 := hideT' hv6; have HG6 := hideT' hg6; have HB6 := hideT' hb6; clear hv6 hg6 hb6)
  have HS0 : Hid (∃ cur, cur = l ++ [⟨kd, nm, up⟩] ∧ OwnR w6 B (.slice o6 (n + 1) c6) 51 termL 3 (tri cur) ∧ (∀ b, (Value.slice o6 (n + 1) c6).ownBlock = some b → (Value.slice ov n cv).ownBlock = some b ∨ w.heap.size ≤ b) ∧ w.grownBy w6 (Value.slice ov n cv).ownBlock) := by
    refine ⟨_, rfl, ?_, fun b hb => ?_, ?_⟩
    · unfold OwnR
      rw [tri_app, List.length_append, List.flatMap_append, tri_len, ← HNN.out]
      exact HV6.out
    · rcases HB6.out with h | h
      · exact .inl (by rw [← h]; exact hb)
      · rw [h] at hb
        injection hb with hb
        simp at hb
        exact .inr (by omega)
    · have hsz := HG6.out.size
      exact ⟨HG6.out.os.trans HBA.out.os, HG6.out.tape.trans HBA.out.tape, HG6.out.output.trans HBA.out.output, by simp at hsz; omega, fun k hk hne => by rw [HG6.out.block k (by simp; omega) hne]; exact HBA.out.block k hk⟩
  go_loopg [0, 24] m (fun gg xv i wr => ∃ (As Bs : List Lm) (cur : List Nd) (ox : Option Addr) (cx k : Nat), gg = Bs.length ∧ Hid (t.kids = As ++ Bs) ∧ i = .int .i64 (As.length : Int) ∧ xv = .slice ox k cx ∧ k ≤ 151 ∧ Hid (k = cur.length ∧ cur = As.foldl (partC (n : Int)) (l ++ [⟨kd, nm, up⟩]) ∧ OwnR wr B (.slice ox k cx) 51 termL 3 (tri cur) ∧ (∀ b, (Value.slice ox k cx).ownBlock = some b → (Value.slice ov n cv).ownBlock = some b ∨ w.heap.size ≤ b) ∧ w.grownBy wr (Value.slice ov n cv).ownBlock))
  case atStart =>
    obtain ⟨cur, e1, e2, e3, e4⟩ := HS0.out
    exact ⟨[], t.kids, cur, o6, c6, n + 1, by rw [HM.out], rfl, rfl, rfl, by omega, ⟨by rw [e1, List.length_append, ← HNN.out]; rfl, e1, e2, e3, e4⟩⟩
  case round =>
    obtain ⟨As, Bs, cur, ox, cx, k, hgg, HA, rfl, rfl, hk151, HS⟩ := hrel
    obtain ⟨j, hj⟩ : ∃ j, j = As.length := ⟨_, rfl⟩
    rw [← hj]
    have HJ := hideT' hj
    clear hj
    cases Bs with
    | nil =>
      have hjm : j = m := by rw [HJ.out, HM.out, HA.out]; simp
      have hnl : ¬ (j : Int) < (m : Int) := by omega
      clear hgg hjm
      go_wp2
      go_ret
      obtain ⟨hk, hc, h1, h2, h3⟩ := HS.out
      refine ⟨⟨_, rfl, ?_, h2⟩, h3⟩
      have e : flatC l t up = cur := by rw [flatC_kids, HA.out, List.append_nil, hc, ← HNN.out, HKN.out.1, HKN.out.2]
      rw [e]; exact h1
    | cons T Bs =>
      have hil : (j : Int) < (m : Int) := by rw [HM.out, HA.out, List.length_append, ← HJ.out]; simp; omega
      have hkj : t.kids[j]? = some T := by rw [HA.out, HJ.out]; simp
      obtain ⟨hk, hcu, hOx, hbx, hgw⟩ := HS.out
      have hzr : LcIn wr (fun b => P b ∧ b < w.heap.size) t (.slice oz m cz) := LcIn.keep (w := w) hgw.size (fun x hx hl => hgw.block x hl (fun e => HPV.out x hx e.symm)) (fun x hx hl => ⟨hx, hl⟩) HZ.out
      obtain ⟨o', c', e', hpart⟩ := hzr.parts
      cases e'
      obtain ⟨g, z1, hoz, hg, ⟨c0, c1, c2⟩, hz1⟩ := hpart j T hkj
      subst hoz
      have hg1 := hg.1
      obtain ⟨oz1, cz1, hzz1'⟩ := hz1.form
      subst hzz1'
      have hTs := Lm.kids_lt (List.mem_of_getElem? hkj)
      obtain ⟨W2, hW2⟩ : ∃ W2, W2 = wr.alloc (.cells #[.int .i64 T.kd, .int .i64 T.nm, .slice oz1 T.kids.length cz1] 48) := ⟨_, rfl⟩
      have hB2 : Below wr.heap.size wr W2 := by rw [hW2]; exact (Below.refl _ _).alloc (Nat.le_refl _) _
      have hws := hgw.size
      have hO2 : OwnR W2 B (.slice ox k cx) 51 termL 3 (tri cur) := OwnR.below hOx hB2 (Nat.le_refl _)
      have hz2 : LcIn W2 (fun b => P b ∧ b < w.heap.size) T (.slice oz1 T.kids.length cz1) := LcIn.below hB2 hz1
      by_cases hle : k ≤ 150
      · have HCALL := hideT' (HIH.out T.sz (by have := HTN.out; omega) T (Nat.le_refl _) cur (.slice ox k cx) (n : Int) _ _ B W2 (by omega) (by have := hB2.size; omega) hO2 hz2 (fun b hb e => by rcases hbx b e with h | h; exact HPV.out b hb.1 h; omega))
        have HCU : Hid (partC (n : Int) cur T = flatC cur T (n : Int)) := by unfold Hid partC; rw [if_pos (by omega)]
        have HKL : Hid ((flatC cur T (n : Int)).length ≤ 151) := (flatC_spec T cur (n : Int) (by omega)).2.2
        have hki : (k : Int) ≤ 150 := by omega
        have HS2 := hideT' (And.intro hk (And.intro hcu (And.intro hbx (And.intro hgw hB2))))
        clear hk hcu hOx hbx hgw hzr hpart hz1 hO2 hz2 hB2 hkj HS
        unfold lcC at HCALL
        go_wp2_with fail
        rw [← hW2]
        refine HCALL.out.mono ?_
        rintro e w9 ⟨⟨u, rfl, hO9, hb9⟩, hg9⟩
        obtain ⟨hk, hcu, hbx, hgw, hB2⟩ := HS2.out
        have hs2 : W2.heap.size = wr.heap.size + 1 := by rw [hW2]; simp
        obtain ⟨o9, c9, he9⟩ := own_formT hO9
        rw [tri_len] at he9
        subst he9
        obtain ⟨k9, hk9⟩ : ∃ k9, k9 = (flatC cur T (n : Int)).length := ⟨_, rfl⟩
        have hk9l : k9 ≤ 151 := by rw [hk9]; exact HKL.out
        rw [← hk9] at hO9 hb9 ⊢
        have HEND : Hid (k9 = (flatC cur T (n : Int)).length ∧ flatC cur T (n : Int) = (As ++ [T]).foldl (partC (n : Int)) (l ++ [⟨kd, nm, up⟩]) ∧ OwnR w9 B (.slice o9 k9 c9) 51 termL 3 (tri (flatC cur T (n : Int))) ∧ (∀ b, (Value.slice o9 k9 c9).ownBlock = some b → (Value.slice ov n cv).ownBlock = some b ∨ w.heap.size ≤ b) ∧ w.grownBy w9 (Value.slice ov n cv).ownBlock) := by
          refine ⟨hk9, by rw [List.foldl_append, ← hcu]; exact HCU.out.symm, hO9, fun b hb => ?_, ?_⟩
          · rcases hb9 b hb with h | h
            · exact hbx b h
            · exact .inr (by omega)
          · refine ⟨hg9.os.trans (hB2.os.trans hgw.os), hg9.tape.trans (hB2.tape.trans hgw.tape), hg9.output.trans (hB2.output.trans hgw.output), by have := hg9.size; omega, fun b hb hne => ?_⟩
            rw [hg9.block b (by omega) (fun e => by rcases hbx b e.symm with h | h; exact hne h.symm; omega), hB2.block b (by omega)]
            exact hgw.block b hb hne
        have HA2 : Hid (t.kids = (As ++ [T]) ++ Bs) := by unfold Hid; rw [HA.out]; simp
        clear hk hcu hbx hgw hB2 hO9 hb9 hg9 hW2 hk9
        go_wp2
        go_roundg Bs.length
        case measure => first | omega | (rw [hgg]; simp)
        case rel => exact ⟨As ++ [T], Bs, flatC cur T (n : Int), o9, c9, k9, rfl, HA2, by rw [List.length_append, ← HJ.out]; go_num, rfl, hk9l, HEND⟩
      · have HCU : Hid (partC (n : Int) cur T = cur) := by unfold Hid partC; rw [if_neg (by omega)]
        have hki : ¬ (k : Int) ≤ 150 := by omega
        have HEND : Hid (k = cur.length ∧ cur = (As ++ [T]).foldl (partC (n : Int)) (l ++ [⟨kd, nm, up⟩]) ∧ OwnR W2 B (.slice ox k cx) 51 termL 3 (tri cur) ∧ (∀ b, (Value.slice ox k cx).ownBlock = some b → (Value.slice ov n cv).ownBlock = some b ∨ w.heap.size ≤ b) ∧ w.grownBy W2 (Value.slice ov n cv).ownBlock) := by
          refine ⟨hk, by rw [List.foldl_append, ← hcu]; exact HCU.out.symm, hO2, hbx, ⟨hB2.os.trans hgw.os, hB2.tape.trans hgw.tape, hB2.output.trans hgw.output, by have := hB2.size; omega, fun b hb hne => by rw [hB2.block b (by omega)]; exact hgw.block b hb hne⟩⟩
        have HA2 : Hid (t.kids = (As ++ [T]) ++ Bs) := by unfold Hid; rw [HA.out]; simp
        clear hk hcu hOx hbx hgw hzr hpart hz1 hO2 hz2 hB2 hkj HS
        go_wp2
        rw [← hW2]
        go_roundg Bs.length
        case measure => first | omega | (rw [hgg]; simp)
        case rel => exact ⟨As ++ [T], Bs, cur, ox, cx, k, rfl, HA2, by rw [List.length_append, ← HJ.out]; go_num, rfl, hk151, HEND⟩
theorem lcFlat_all : ∀ N, FlatC N := by
  intro N
  induction N using Nat.strongRecOn with
  | _ N IH => exact lcFlat_step N IH
set_option maxHeartbeats 2000000 in
/-- What lcTold answers: as tellTree. -/
theorem lcTold_any (t : Lm) (z : Value) (P : Nat → Prop) (w : World) (hz : LcIn w P t z) :
    Calls Tryd.prog 33 #[.agg (lcC t.kd t.nm z)] w fun e w' => ToldT w t e w' ∧ Below w.heap.size w w' := by
  obtain ⟨oz, cz, hzz⟩ := hz.form
  subst hzz
  have hB1 : Below w.heap.size w (w.alloc (.cells #[.int .i64 t.kd, .int .i64 t.nm, .slice oz t.kids.length cz] 48)) := (Below.refl _ _).alloc (Nat.le_refl _) _
  have HB1 := hideT' hB1
  have HC := hideT' (lcFlat_all t.sz t (Nat.le_refl _) [] (.slice none 0 0) (-1) (.slice oz t.kids.length cz) P w.heap.size (w.alloc (.cells #[.int .i64 t.kd, .int .i64 t.nm, .slice oz t.kids.length cz] 48)) (by simp) hB1.size (World.ownsRow_nil _ _ _ _) (LcIn.below hB1 hz) (fun b _ e => by simp [Value.ownBlock] at e))
  have HFL : Hid ((flatC [] t (-1)).length ≤ 151) := (flatC_spec t [] (-1) (by simp)).2.2
  clear hz hB1
  unfold lcC at HC ⊢
  go_enter Tryd.func33, Tryd.ntmps33
  go_wp2_with fail
  refine HC.out.mono ?_
  rintro e w2 ⟨⟨u, rfl, hO, _⟩, hg2⟩
  have hB2 : Below w.heap.size w w2 := HB1.out.grown hg2 HB1.out.size (fun k e => by simp [Value.ownBlock] at e)
  have HG := hideT' (specGoodTerm_any (flatC [] t (-1)) u w2 (OwnR.inR hO termL_len) (by have := HFL.out; omega))
  obtain ⟨r, hr⟩ : ∃ r, r = t.good := ⟨_, rfl⟩
  rw [goodS_flatC, ← hr] at HG
  have HR := hideT' hr
  have HO := hideT' hO
  have HB2 := hideT' hB2
  clear hr hO hB2 hg2
  go_wp2_with fail
  refine HG.out.mono ?_
  rintro e w3 ⟨rfl, hB3⟩
  have HB3 : Hid (Below w.heap.size w w3) := HB2.out.trans (hB3.mono HB2.out.size)
  have HO3 := hideT' (OwnR.below (l := tri (flatC [] t (-1))) HO.out hB3 (Nat.le_refl _))
  clear hB3
  cases r with
  | false =>
    go_wp2
    go_ret2
    exact ⟨⟨.slice none 0 0, by rw [← HR.out]; rfl, by rw [← HR.out]; exact World.ownsRow_nil _ _ _ _⟩, HB3.out⟩
  | true =>
    go_wp2
    go_ret2
    refine ⟨⟨u, by rw [← HR.out]; rfl, ?_⟩, HB3.out⟩
    rw [← HR.out, if_pos rfl, ← flatC_told t HR.out.symm]
    exact HO3.out
end Go.Proofs.YtgolfbjfopoeeaaDoor
