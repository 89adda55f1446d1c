/-
  The texts SpecTold, Told, SpecFree, ImplFree, ImplClosed, CpsMath, Closed, Apply, ImplShift, one behind the other, as one.
-/
import Derived.Test.YtbnagagdboeedaaSpecTree
import Derived.Test.YtbnagagdboeedaaSpecGoodT
import Derived.Test.YtbnagagdboeedaaImplTell
import Derived.Test.YtbnagagdboeedaaFreeMath
import Derived.Test.YtbnagagdboeedaaSortRow
import Derived.Maps.OwnIn
import Derived.BigQuiet
import Derived.Test.YtbnagagdboeedaaSpecLc
import Derived.Test.YtbnagagdboeedaaImplRep
import Derived.Deep.QuietTactic

/-
  What lcFlat and lcTold of the model answer.
-/
namespace Go.Proofs.Ytbnagagdboeedaa
open Go.RowKit BL
set_option linter.unusedVariables false

/-- The nodes of a tree behind others, as the model lays them: no more than are too many. -/
def flatC : List Nd → Lm → Int → List Nd
  | l, .var n, up => l ++ [⟨1, n, up⟩]
  | l, .lam t, up => if (l ++ [(⟨2, 0, up⟩ : Nd)]).length ≤ 150 then flatC (l ++ [⟨2, 0, up⟩]) t (l.length : Int) else l ++ [⟨2, 0, up⟩]
  | l, .app s t, up =>
    if (if (l ++ [(⟨3, 0, up⟩ : Nd)]).length ≤ 150 then flatC (l ++ [⟨3, 0, up⟩]) s (l.length : Int) else l ++ [⟨3, 0, up⟩]).length ≤ 150
    then flatC (if (l ++ [(⟨3, 0, up⟩ : Nd)]).length ≤ 150 then flatC (l ++ [⟨3, 0, up⟩]) s (l.length : Int) else l ++ [⟨3, 0, up⟩]) t (l.length : Int)
    else if (l ++ [(⟨3, 0, up⟩ : Nd)]).length ≤ 150 then flatC (l ++ [⟨3, 0, up⟩]) s (l.length : Int) else l ++ [⟨3, 0, up⟩]
/-- One part more. -/
def partC (k : Int) (l : List Nd) (s : Lm) : List Nd := if l.length ≤ 150 then flatC l s k else l
theorem flatC_kids (l : List Nd) (t : Lm) (up : Int) : flatC l t up = t.kids.foldl (partC (l.length : Int)) (l ++ [⟨t.kd, t.nm, up⟩]) := by
  cases t <;> rfl
theorem flatC_spec : ∀ (t : Lm) (l : List Nd) (up : Int), l.length ≤ 150 → (l.length + t.sz ≤ 150 → flatC l t up = l ++ t.flat l.length up) ∧ (150 < l.length + t.sz → 150 < (flatC l t up).length) ∧ (flatC l t up).length ≤ 151
  | .var n, l, up, h => by
    refine ⟨fun _ => rfl, fun h2 => ?_, ?_⟩
    · simp only [flatC, List.length_append, List.length_singleton, Lm.sz] at h2 ⊢; omega
    · simp only [flatC, List.length_append, List.length_singleton]; omega
  | .lam t, l, up, h => by
    have hl : (l ++ [(⟨2, 0, up⟩ : Nd)]).length = l.length + 1 := by simp
    have := t.sz_pos
    by_cases h1 : l.length + 1 ≤ 150
    · have ih := flatC_spec t (l ++ [⟨2, 0, up⟩]) (l.length : Int) (by omega)
      rw [hl] at ih
      have e : flatC l (.lam t) up = flatC (l ++ [⟨2, 0, up⟩]) t (l.length : Int) := by rw [flatC, if_pos (by omega)]
      rw [e]
      refine ⟨fun h2 => ?_, fun h2 => ih.2.1 (by simp only [Lm.sz] at h2; omega), ih.2.2⟩
      rw [ih.1 (by simp only [Lm.sz] at h2; omega), Lm.flat]
      simp
    · have e : flatC l (.lam t) up = l ++ [⟨2, 0, up⟩] := by rw [flatC, if_neg (by omega)]
      rw [e, hl]
      refine ⟨fun h2 => ?_, fun _ => by omega, by omega⟩
      simp only [Lm.sz] at h2; omega
  | .app s t, l, up, h => by
    have hl : (l ++ [(⟨3, 0, up⟩ : Nd)]).length = l.length + 1 := by simp
    have := s.sz_pos
    have := t.sz_pos
    by_cases h1 : l.length + 1 ≤ 150
    · have ih := flatC_spec s (l ++ [⟨3, 0, up⟩]) (l.length : Int) (by omega)
      rw [hl] at ih
      obtain ⟨m, hm⟩ : ∃ m, m = flatC (l ++ [⟨3, 0, up⟩]) s (l.length : Int) := ⟨_, rfl⟩
      have e : flatC l (.app s t) up = if m.length ≤ 150 then flatC m t (l.length : Int) else m := by rw [flatC, if_pos (show (l ++ [(⟨3, 0, up⟩ : Nd)]).length ≤ 150 by omega), ← hm]
      rw [← hm] at ih
      rw [e]
      by_cases h2 : m.length ≤ 150
      · rw [if_pos h2]
        have hfit : l.length + 1 + s.sz ≤ 150 := by
          rcases Nat.lt_or_ge 150 (l.length + 1 + s.sz) with h3 | h3
          · have := ih.2.1 h3; omega
          · omega
        have hme := ih.1 hfit
        have hml : m.length = l.length + 1 + s.sz := by rw [hme, List.length_append, hl, Lm.flat_sz]
        have ih2 := flatC_spec t m (l.length : Int) h2
        refine ⟨fun h3 => ?_, fun h3 => ih2.2.1 (by simp only [Lm.sz] at h3; omega), ih2.2.2⟩
        rw [ih2.1 (by simp only [Lm.sz] at h3; omega), Lm.flat, hml, hme]
        simp
      · rw [if_neg h2]
        refine ⟨fun h3 => ?_, fun _ => by omega, ih.2.2⟩
        exfalso
        simp only [Lm.sz] at h3
        have := ih.1 (by omega)
        rw [this, List.length_append, hl, Lm.flat_sz] at h2
        omega
    · have e : flatC l (.app s t) up = l ++ [⟨3, 0, up⟩] := by rw [flatC, if_neg (show ¬ (l ++ [(⟨3, 0, up⟩ : Nd)]).length ≤ 150 by omega), if_neg (by omega)]
      rw [e, hl]
      refine ⟨fun h2 => ?_, fun _ => by omega, by omega⟩
      simp only [Lm.sz] at h2; omega
theorem goodS_flatC (t : Lm) : goodS (flatC [] t (-1)) = t.good := by
  have h := flatC_spec t [] (-1) (by simp)
  simp only [List.length_nil, Nat.zero_add, List.nil_append] at h
  rcases Nat.lt_or_ge 150 t.sz with h1 | h1
  · have h2 := h.2.1 h1
    rw [goodS_short (by simp; omega)]
    unfold Lm.good
    rw [decide_eq_false (show ¬ t.sz ≤ 150 by omega)]; simp
  · rw [h.1 h1]; exact goodS_flat t
/-- The same as the program tells. -/
theorem flatC_told (t : Lm) (h : t.good = true) : flatC [] t (-1) = t.flat 0 (-1) := by
  have h1 := flatC_spec t [] (-1) (by simp)
  simp only [List.length_nil, Nat.zero_add, List.nil_append] at h1
  exact h1.1 (Lm.good_sz h).1
theorem partC_len {k : Int} {l : List Nd} {s : Lm} (h : l.length ≤ 151) : (partC k l s).length ≤ 151 := by
  unfold partC
  split
  · next h1 => exact (flatC_spec s l k h1).2.2
  · exact h

/-- What lcFlat does: the row stays the caller's own, all else but new memory stays. -/
def FlatC (N : Nat) : Prop := ∀ (t : Lm), t.sz ≤ N → ∀ (l : List Nd) (v : Value) (up : Int) (z : Value) (P : Nat → Prop) (B : Nat) (w : World), l.length ≤ 150 → B ≤ w.heap.size → OwnR w B v 57 termL 3 (tri l) → LcIn w P t z → (∀ b, P b → v.ownBlock ≠ some b) →
    Calls Try.prog 96 #[v, .agg (lcC t.kd t.nm z), .int .i64 up] w fun e w' => (∃ u, e = .returned u ∧ OwnR w' B u 57 termL 3 (tri (flatC l t up)) ∧ (∀ b, u.ownBlock = some b → v.ownBlock = some b ∨ w.heap.size ≤ b)) ∧ w.grownBy w' v.ownBlock
theorem tri_app (a b : List Nd) : tri (a ++ b) = tri a ++ tri b := by simp [tri]

set_option maxHeartbeats 8000000 in
set_option maxRecDepth 100000 in
theorem lcFlat_step (N : Nat) (IH : ∀ n, n < N → FlatC n) : FlatC N := by
  intro t ht l v up z P B w hl hBw hv hz hPv
  have HIH := hideT' IH
  have HTN := hideT' ht
  obtain ⟨ov, cv, hvv⟩ := own_formT hv
  rw [tri_len] at hvv
  subst hvv
  obtain ⟨oz, cz, hzz, _⟩ := hz.parts
  have HPV := hideT' hPv
  have HZ := hideT' hz
  obtain ⟨m, hm⟩ : ∃ m, m = t.kids.length := ⟨_, rfl⟩
  have hm2 : m ≤ 2 := by rw [hm]; cases t <;> simp [Lm.kids]
  rw [← hm] at hzz
  subst hzz
  have HM := hideT' hm
  obtain ⟨kd, hkd⟩ : ∃ kd, kd = t.kd := ⟨_, rfl⟩
  obtain ⟨nm, hnm⟩ : ∃ nm, nm = t.nm := ⟨_, rfl⟩
  rw [← hkd, ← hnm]
  have HKN := hideT' (And.intro hkd hnm)
  have HV : Hid (w.ownsRow B 57 3 (.slice ov l.length cv) l.length ((tri l).flatMap termL)) := by unfold Hid; have := hv; unfold OwnR at this; rw [tri_len] at this; exact this
  obtain ⟨n, hn⟩ : ∃ n, n = l.length := ⟨_, rfl⟩
  have HNN := hideT' hn
  rw [← hn] at hl HV HPV ⊢
  clear IH ht hv hz hPv hm hkd hnm hn
  have hz0 := zero_lcT.1
  have hzt := zero_term.1
  obtain ⟨i0, hi, hzz0, hzz1, hzz2⟩ := info_parts info_term
  show Calls Try.prog 96 #[.slice ov n cv, .agg #[.int .i64 kd, .int .i64 nm, .slice oz m cz], .int .i64 up] w _
  have HTC : Hid (∀ j u, (termL (kd, nm, up))[j]? = some u → ((w.alloc (.cells #[.int .i64 kd, .int .i64 nm, .slice oz m cz] 54)).alloc (.cells #[.int .i64 kd, .int .i64 nm, .int .i64 up] 57)).cell? ((⟨w.heap.size + 1, 0, none⟩ : Addr).add j) = some u) := by
    have := term_cells (w.alloc (.cells #[.int .i64 kd, .int .i64 nm, .slice oz m cz] 54)) (kd, nm, up)
    rw [World.size_alloc] at this
    exact this
  have HRT : Hid (RowAt ((w.alloc (.cells #[.int .i64 kd, .int .i64 nm, .slice oz m cz] 54)).alloc (.cells #[.int .i64 kd, .int .i64 nm, .int .i64 up] 57)) w.heap.size 54 #[.int .i64 kd, .int .i64 nm, .slice oz m cz]) := RowAt.old (RowAt.new _ _ _) _
  have HBA : Hid (Below w.heap.size w ((w.alloc (.cells #[.int .i64 kd, .int .i64 nm, .slice oz m cz] 54)).alloc (.cells #[.int .i64 kd, .int .i64 nm, .int .i64 up] 57))) := ((Below.refl _ _).alloc (Nat.le_refl _) _).alloc (by simp) _
  have HOB : Hid (∀ b, (Value.slice ov n cv).ownBlock = some b → B ≤ b ∧ b < w.heap.size) := fun b hb => HV.out.lt b hb
  go_enter Try.func96, Try.ntmps96
  go_wp2_with (at_builtin; refine append_own3 _ rfl _ _ 27 rfl B 57 i0 (.agg #[.int .i64 0, .int .i64 0, .int .i64 0]) 3 24 Try.underlying27 hi hzz0 hzz1 hzz2 rfl (by decide) (.slice ov n cv) n _ rfl ((HV.out.alloc _).alloc _) ⟨w.heap.size + 1, 0, none⟩ 1 1 (termL (kd, nm, up)) rfl rfl HTC.out (termL_one _) (by omega) (by unfold maxLen; omega) (by omega) (by simp; omega) ?_; intro v6 w6 hv6 hg6 hb6; obtain ⟨o6, c6, rfl⟩ := own_formT hv6; have f2 : w6.cell? ⟨w.heap.size, 2, none⟩ = some (.slice oz m cz) := (by rw [cell_of_row _ _ _ _ _ _ (HRT.out.grown hg6 (fun e => by have := (HOB.out _ e.symm).2; omega))]; rfl); have HV6 := hideT' hv6; have HG6 := hideT' hg6; have HB6 := hideT' hb6; clear hv6 hg6 hb6)
  have HS0 : Hid (∃ cur, cur = l ++ [⟨kd, nm, up⟩] ∧ OwnR w6 B (.slice o6 (n + 1) c6) 57 termL 3 (tri cur) ∧ (∀ b, (Value.slice o6 (n + 1) c6).ownBlock = some b → (Value.slice ov n cv).ownBlock = some b ∨ w.heap.size ≤ b) ∧ w.grownBy w6 (Value.slice ov n cv).ownBlock) := by
    refine ⟨_, rfl, ?_, fun b hb => ?_, ?_⟩
    · unfold OwnR
      rw [tri_app, List.length_append, List.flatMap_append, tri_len, ← HNN.out]
      exact HV6.out
    · rcases HB6.out with h | h
      · exact .inl (by rw [← h]; exact hb)
      · rw [h] at hb
        injection hb with hb
        simp at hb
        exact .inr (by omega)
    · have hsz := HG6.out.size
      exact ⟨HG6.out.os.trans HBA.out.os, HG6.out.tape.trans HBA.out.tape, HG6.out.output.trans HBA.out.output, by simp at hsz; omega, fun k hk hne => by rw [HG6.out.block k (by simp; omega) hne]; exact HBA.out.block k hk⟩
  go_loopg [0, 24] m (fun gg xv i wr => ∃ (As Bs : List Lm) (cur : List Nd) (ox : Option Addr) (cx k : Nat), gg = Bs.length ∧ Hid (t.kids = As ++ Bs) ∧ i = .int .i64 (As.length : Int) ∧ xv = .slice ox k cx ∧ k ≤ 151 ∧ Hid (k = cur.length ∧ cur = As.foldl (partC (n : Int)) (l ++ [⟨kd, nm, up⟩]) ∧ OwnR wr B (.slice ox k cx) 57 termL 3 (tri cur) ∧ (∀ b, (Value.slice ox k cx).ownBlock = some b → (Value.slice ov n cv).ownBlock = some b ∨ w.heap.size ≤ b) ∧ w.grownBy wr (Value.slice ov n cv).ownBlock))
  case atStart =>
    obtain ⟨cur, e1, e2, e3, e4⟩ := HS0.out
    exact ⟨[], t.kids, cur, o6, c6, n + 1, by rw [HM.out], rfl, rfl, rfl, by omega, ⟨by rw [e1, List.length_append, ← HNN.out]; rfl, e1, e2, e3, e4⟩⟩
  case round =>
    obtain ⟨As, Bs, cur, ox, cx, k, hgg, HA, rfl, rfl, hk151, HS⟩ := hrel
    obtain ⟨j, hj⟩ : ∃ j, j = As.length := ⟨_, rfl⟩
    rw [← hj]
    have HJ := hideT' hj
    clear hj
    cases Bs with
    | nil =>
      have hjm : j = m := by rw [HJ.out, HM.out, HA.out]; simp
      have hnl : ¬ (j : Int) < (m : Int) := by omega
      clear hgg hjm
      go_wp2
      go_ret
      obtain ⟨hk, hc, h1, h2, h3⟩ := HS.out
      refine ⟨⟨_, rfl, ?_, h2⟩, h3⟩
      have e : flatC l t up = cur := by rw [flatC_kids, HA.out, List.append_nil, hc, ← HNN.out, HKN.out.1, HKN.out.2]
      rw [e]; exact h1
    | cons T Bs =>
      have hil : (j : Int) < (m : Int) := by rw [HM.out, HA.out, List.length_append, ← HJ.out]; simp; omega
      have hkj : t.kids[j]? = some T := by rw [HA.out, HJ.out]; simp
      obtain ⟨hk, hcu, hOx, hbx, hgw⟩ := HS.out
      have hzr : LcIn wr (fun b => P b ∧ b < w.heap.size) t (.slice oz m cz) := LcIn.keep (w := w) hgw.size (fun x hx hl => hgw.block x hl (fun e => HPV.out x hx e.symm)) (fun x hx hl => ⟨hx, hl⟩) HZ.out
      obtain ⟨o', c', e', hpart⟩ := hzr.parts
      cases e'
      obtain ⟨g, z1, hoz, hg, ⟨c0, c1, c2⟩, hz1⟩ := hpart j T hkj
      subst hoz
      have hg1 := hg.1
      obtain ⟨oz1, cz1, hzz1'⟩ := hz1.form
      subst hzz1'
      have hTs := Lm.kids_lt (List.mem_of_getElem? hkj)
      obtain ⟨W2, hW2⟩ : ∃ W2, W2 = wr.alloc (.cells #[.int .i64 T.kd, .int .i64 T.nm, .slice oz1 T.kids.length cz1] 54) := ⟨_, rfl⟩
      have hB2 : Below wr.heap.size wr W2 := by rw [hW2]; exact (Below.refl _ _).alloc (Nat.le_refl _) _
      have hws := hgw.size
      have hO2 : OwnR W2 B (.slice ox k cx) 57 termL 3 (tri cur) := OwnR.below hOx hB2 (Nat.le_refl _)
      have hz2 : LcIn W2 (fun b => P b ∧ b < w.heap.size) T (.slice oz1 T.kids.length cz1) := LcIn.below hB2 hz1
      by_cases hle : k ≤ 150
      · have HCALL := hideT' (HIH.out T.sz (by have := HTN.out; omega) T (Nat.le_refl _) cur (.slice ox k cx) (n : Int) _ _ B W2 (by omega) (by have := hB2.size; omega) hO2 hz2 (fun b hb e => by rcases hbx b e with h | h; exact HPV.out b hb.1 h; omega))
        have HCU : Hid (partC (n : Int) cur T = flatC cur T (n : Int)) := by unfold Hid partC; rw [if_pos (by omega)]
        have HKL : Hid ((flatC cur T (n : Int)).length ≤ 151) := (flatC_spec T cur (n : Int) (by omega)).2.2
        have hki : (k : Int) ≤ 150 := by omega
        have HS2 := hideT' (And.intro hk (And.intro hcu (And.intro hbx (And.intro hgw hB2))))
        clear hk hcu hOx hbx hgw hzr hpart hz1 hO2 hz2 hB2 hkj HS
        unfold lcC at HCALL
        go_wp2_with fail
        rw [← hW2]
        refine HCALL.out.mono ?_
        rintro e w9 ⟨⟨u, rfl, hO9, hb9⟩, hg9⟩
        obtain ⟨hk, hcu, hbx, hgw, hB2⟩ := HS2.out
        have hs2 : W2.heap.size = wr.heap.size + 1 := by rw [hW2]; simp
        obtain ⟨o9, c9, he9⟩ := own_formT hO9
        rw [tri_len] at he9
        subst he9
        obtain ⟨k9, hk9⟩ : ∃ k9, k9 = (flatC cur T (n : Int)).length := ⟨_, rfl⟩
        have hk9l : k9 ≤ 151 := by rw [hk9]; exact HKL.out
        rw [← hk9] at hO9 hb9 ⊢
        have HEND : Hid (k9 = (flatC cur T (n : Int)).length ∧ flatC cur T (n : Int) = (As ++ [T]).foldl (partC (n : Int)) (l ++ [⟨kd, nm, up⟩]) ∧ OwnR w9 B (.slice o9 k9 c9) 57 termL 3 (tri (flatC cur T (n : Int))) ∧ (∀ b, (Value.slice o9 k9 c9).ownBlock = some b → (Value.slice ov n cv).ownBlock = some b ∨ w.heap.size ≤ b) ∧ w.grownBy w9 (Value.slice ov n cv).ownBlock) := by
          refine ⟨hk9, by rw [List.foldl_append, ← hcu]; exact HCU.out.symm, hO9, fun b hb => ?_, ?_⟩
          · rcases hb9 b hb with h | h
            · exact hbx b h
            · exact .inr (by omega)
          · refine ⟨hg9.os.trans (hB2.os.trans hgw.os), hg9.tape.trans (hB2.tape.trans hgw.tape), hg9.output.trans (hB2.output.trans hgw.output), by have := hg9.size; omega, fun b hb hne => ?_⟩
            rw [hg9.block b (by omega) (fun e => by rcases hbx b e.symm with h | h; exact hne h.symm; omega), hB2.block b (by omega)]
            exact hgw.block b hb hne
        have HA2 : Hid (t.kids = (As ++ [T]) ++ Bs) := by unfold Hid; rw [HA.out]; simp
        clear hk hcu hbx hgw hB2 hO9 hb9 hg9 hW2 hk9
        go_wp2
        go_roundg Bs.length
        case measure => first | omega | (rw [hgg]; simp)
        case rel => exact ⟨As ++ [T], Bs, flatC cur T (n : Int), o9, c9, k9, rfl, HA2, by rw [List.length_append, ← HJ.out]; go_num, rfl, hk9l, HEND⟩
      · have HCU : Hid (partC (n : Int) cur T = cur) := by unfold Hid partC; rw [if_neg (by omega)]
        have hki : ¬ (k : Int) ≤ 150 := by omega
        have HEND : Hid (k = cur.length ∧ cur = (As ++ [T]).foldl (partC (n : Int)) (l ++ [⟨kd, nm, up⟩]) ∧ OwnR W2 B (.slice ox k cx) 57 termL 3 (tri cur) ∧ (∀ b, (Value.slice ox k cx).ownBlock = some b → (Value.slice ov n cv).ownBlock = some b ∨ w.heap.size ≤ b) ∧ w.grownBy W2 (Value.slice ov n cv).ownBlock) := by
          refine ⟨hk, by rw [List.foldl_append, ← hcu]; exact HCU.out.symm, hO2, hbx, ⟨hB2.os.trans hgw.os, hB2.tape.trans hgw.tape, hB2.output.trans hgw.output, by have := hB2.size; omega, fun b hb hne => by rw [hB2.block b (by omega)]; exact hgw.block b hb hne⟩⟩
        have HA2 : Hid (t.kids = (As ++ [T]) ++ Bs) := by unfold Hid; rw [HA.out]; simp
        clear hk hcu hOx hbx hgw hzr hpart hz1 hO2 hz2 hB2 hkj HS
        go_wp2
        rw [← hW2]
        go_roundg Bs.length
        case measure => first | omega | (rw [hgg]; simp)
        case rel => exact ⟨As ++ [T], Bs, cur, ox, cx, k, rfl, HA2, by rw [List.length_append, ← HJ.out]; go_num, rfl, hk151, HEND⟩
theorem lcFlat_all : ∀ N, FlatC N := by
  intro N
  induction N using Nat.strongRecOn with
  | _ N IH => exact lcFlat_step N IH
set_option maxHeartbeats 2000000 in
/-- What lcTold answers: as tellTree. -/
theorem lcTold_any (t : Lm) (z : Value) (P : Nat → Prop) (w : World) (hz : LcIn w P t z) :
    Calls Try.prog 59 #[.agg (lcC t.kd t.nm z)] w fun e w' => ToldT w t e w' ∧ Below w.heap.size w w' := by
  obtain ⟨oz, cz, hzz⟩ := hz.form
  subst hzz
  have hB1 : Below w.heap.size w (w.alloc (.cells #[.int .i64 t.kd, .int .i64 t.nm, .slice oz t.kids.length cz] 54)) := (Below.refl _ _).alloc (Nat.le_refl _) _
  have HB1 := hideT' hB1
  have HC := hideT' (lcFlat_all t.sz t (Nat.le_refl _) [] (.slice none 0 0) (-1) (.slice oz t.kids.length cz) P w.heap.size (w.alloc (.cells #[.int .i64 t.kd, .int .i64 t.nm, .slice oz t.kids.length cz] 54)) (by simp) hB1.size (World.ownsRow_nil _ _ _ _) (LcIn.below hB1 hz) (fun b _ e => by simp [Value.ownBlock] at e))
  have HFL : Hid ((flatC [] t (-1)).length ≤ 151) := (flatC_spec t [] (-1) (by simp)).2.2
  clear hz hB1
  unfold lcC at HC ⊢
  go_enter Try.func59, Try.ntmps59
  go_wp2_with fail
  refine HC.out.mono ?_
  rintro e w2 ⟨⟨u, rfl, hO, _⟩, hg2⟩
  have hB2 : Below w.heap.size w w2 := HB1.out.grown hg2 HB1.out.size (fun k e => by simp [Value.ownBlock] at e)
  have HG := hideT' (specGoodTerm_any (flatC [] t (-1)) u w2 (OwnR.inR hO termL_len) (by have := HFL.out; omega))
  obtain ⟨r, hr⟩ : ∃ r, r = t.good := ⟨_, rfl⟩
  rw [goodS_flatC, ← hr] at HG
  have HR := hideT' hr
  have HO := hideT' hO
  have HB2 := hideT' hB2
  clear hr hO hB2 hg2
  go_wp2_with fail
  refine HG.out.mono ?_
  rintro e w3 ⟨rfl, hB3⟩
  have HB3 : Hid (Below w.heap.size w w3) := HB2.out.trans (hB3.mono HB2.out.size)
  have HO3 := hideT' (OwnR.below (l := tri (flatC [] t (-1))) HO.out hB3 (Nat.le_refl _))
  clear hB3
  cases r with
  | false =>
    go_wp2
    go_ret2
    exact ⟨⟨.slice none 0 0, by rw [← HR.out]; rfl, by rw [← HR.out]; exact World.ownsRow_nil _ _ _ _⟩, HB3.out⟩
  | true =>
    go_wp2
    go_ret2
    refine ⟨⟨u, by rw [← HR.out]; rfl, ?_⟩, HB3.out⟩
    rw [← HR.out, if_pos rfl, ← flatC_told t HR.out.symm]
    exact HO3.out
end Go.Proofs.Ytbnagagdboeedaa

/-
  What is told of a term that may be none: the answers of functions that give a term and whether it is good.
-/
namespace Go.Proofs.Ytbnagagdboeedaa
open Go.RowKit BL
set_option linter.unusedVariables false

def toldB : Option Lm → Bool
  | none => false
  | some t => t.good
def toldL : Option Lm → List (Int × Int × Int)
  | none => []
  | some t => if t.good then tri (t.flat 0 (-1)) else []
theorem toldL_len (o : Option Lm) : (toldL o).length ≤ 1048576 := by
  cases o with
  | none => simp [toldL]
  | some t =>
    unfold toldL
    simp only
    split
    · next h => rw [tri_len, Lm.flat_sz]; have := (Lm.good_sz h).1; omega
    · simp
def TOut (w : World) (o : Option Lm) (e : Ending) (w' : World) : Prop := ∃ u, e = .returned (.tuple #[u, .bool (toldB o)]) ∧ OwnR w' w.heap.size u 57 termL 3 (toldL o)
theorem TOut.no {w w' : World} : TOut w none (.returned (.tuple #[.slice none 0 0, .bool false])) w' := ⟨_, rfl, World.ownsRow_nil _ _ _ _⟩
theorem TOut.bad {w w' : World} {o : Option Lm} (h : o = none) : TOut w o (.returned (.tuple #[.slice none 0 0, .bool false])) w' := by subst h; exact TOut.no
theorem ToldT.out {w w1 w' : World} {t : Lm} {e : Ending} {o : Option Lm} (h : ToldT w1 t e w') (hs : w.heap.size ≤ w1.heap.size) (ho : o = some t) : TOut w o e w' := by
  subst ho
  obtain ⟨u, he, hO⟩ := h
  exact ⟨u, he, ⟨hO.1, hO.2.imp id fun ⟨g, cap, cur, h1, h2, h3⟩ => ⟨g, cap, cur, h1, Nat.le_trans hs h2, h3⟩⟩⟩
/-- A told answer's parts. -/
theorem ToldT.parts {w w' : World} {t : Lm} {e : Ending} (h : ToldT w t e w') : ∃ u, e = .returned (.tuple #[u, .bool t.good]) ∧ OwnR w' w.heap.size u 57 termL 3 (toldL (some t)) := h
theorem readP'_facts {l : List Nd} {t : Lm} (h : readP' l = some t) : l = t.flat 0 (-1) ∧ t.sz ≤ 150 ∧ t.dp ≤ 40 ∧ t.ok = true ∧ t.good = true := by
  have h1 := (readP'_iff l t).1 h
  have h2 := Lm.good_sz h1.2
  exact ⟨h1.1, h2.1, h2.2.1, h2.2.2, h1.2⟩
theorem goodS_none {l : List Nd} (h : readP' l = none) : goodS l = false := by rw [goodS_read, h]; rfl
theorem goodS_some {l : List Nd} {t : Lm} (h : readP' l = some t) : goodS l = true := by rw [goodS_read, h]; rfl
/-- lcTree of a whole good row. -/
theorem lcTree_whole (l : List Nd) (t : Lm) (v : Value) (w : World) (hv : NdIn w v l) (h : readP' l = some t) :
    Calls Try.prog 52 #[v, .int .i64 0] w fun e w' => (∃ z, e = .returned (.agg (lcC t.kd t.nm z)) ∧ LcIn w' (fun x => w.heap.size ≤ x) t z) ∧ Below w.heap.size w w' := by
  obtain ⟨h1, h2, _⟩ := readP'_facts h
  exact lcTree_all t.sz t (Nat.le_refl _) l 0 (-1) v w (by rw [h1, Lm.flat_sz]; exact h2) hv (by rw [h1]; exact Seg.whole t) (fun i h3 h4 => by rw [h1, Lm.flat_sz] at h4; omega)
end Go.Proofs.Ytbnagagdboeedaa

/-
  What lcFree and FreeIn of the model answer.
-/
namespace Go.Proofs.Ytbnagagdboeedaa
open Go.RowKit BL
set_option linter.unusedVariables false

/-- Rows of marks. -/
abbrev bitL : Bool → List Value := fun x => [Value.bool x]
theorem bitL_len (x : Bool) : (bitL x).length = 1 := rfl
theorem bit_cell {w : World} {b : Nat} {ms : List Bool} (h : RecAt w b 4 bitL ms) {i : Nat} (hi : i < ms.length) : w.cell? ⟨b, i, none⟩ = some (.bool (ms.getD i false)) := by
  have := RecAt.cell (c := 1) h bitL_len i 0 hi (by decide)
  simpa [bitL] using this
theorem bit_set {w : World} {b : Nat} {ms : List Bool} (h : RecAt w b 4 bitL ms) (i : Nat) (x : Bool) : RecAt (w.setCell ⟨b, i, none⟩ (.bool x)) b 4 bitL (ms.set i x) := by
  have h1 := heap_setCell_same w b i _ _ (.bool x) h
  have e1 : ∀ l : List Bool, l.flatMap bitL = l.map Value.bool := fun l => by
    induction l with
    | nil => rfl
    | cons a l ih => rw [List.flatMap_cons, ih, List.map_cons]; rfl
  have e2 : ((ms.flatMap bitL).toArray).setIfInBounds i (.bool x) = ((ms.set i x).flatMap bitL).toArray := by
    rw [e1, e1, List.map_set]; simp
  rw [e2] at h1
  exact h1
theorem bit_froz {w : World} {b : Nat} {ms : List Bool} (h : RecAt w b 4 bitL ms) (i : Nat) : w.frozen? ⟨b, i, none⟩ = false := frozen_of_row w b i _ _ h
theorem info_bit : (Try.prog.info? 4).map (fun i => (i.zero, i.size, i.bytes)) = some (some (.bool false), 1, 1) := by kernel_rfl
theorem make_bit (n : Nat) (hn : n ≤ 1048576) (w : World) : (Instr.makeSlice 50 (.int .i64 (n : Int)) (.int .i64 (n : Int))).run Try.prog w = .ok (.slice (some ⟨w.heap.size, 0, none⟩) n n) (w.alloc (.cells ((List.replicate n false).flatMap bitL).toArray 4)) := by
  obtain ⟨i, hi, hzz⟩ := Option.map_eq_some_iff.1 info_bit
  simp only [Prod.mk.injEq] at hzz
  obtain ⟨hz, hs, hb⟩ := hzz
  have hr := run_make (P := Try.prog) w 50 4 i _ Try.underlying50 hi hz .i64 .i64 n n (by omega) (Int.le_refl _) (by rw [hb]; omega) (by omega)
  simp only [Int.toNat_natCast, hs] at hr
  rw [hr, ← made_rec bitL 1 bitL_len _ false (by rfl) n]
  rfl
def markF (bs : List Bool) (l : List Int) : List Bool := l.foldl (fun bs i => bs.set i.toNat true) bs
theorem markF_len : ∀ (l : List Int) (bs : List Bool), (markF bs l).length = bs.length
  | [], bs => rfl
  | i :: l, bs => by rw [markF, List.foldl_cons]; exact (markF_len l (bs.set i.toNat true)).trans (by simp)
theorem markF_app (bs : List Bool) (l k : List Int) : markF bs (l ++ k) = markF (markF bs l) k := by unfold markF; rw [List.foldl_append]
theorem markF_get : ∀ (l : List Int) (bs : List Bool) (i : Nat), i < bs.length → (∀ x ∈ l, 0 ≤ x) → (markF bs l).getD i false = (bs.getD i false || l.contains (i : Int))
  | [], bs, i, hi, _ => by simp [markF]
  | x :: l, bs, i, hi, hx => by
    have h0 := hx x (by simp)
    rw [show markF bs (x :: l) = markF (bs.set x.toNat true) l from rfl, markF_get l _ i (by simpa using hi) (fun y hy => hx y (List.mem_cons_of_mem _ hy))]
    have e : (bs.set x.toNat true).getD i false = (bs.getD i false || decide ((i : Int) = x)) := by
      by_cases h : x.toNat = i
      · have hxi : (i : Int) = x := by omega
        subst h
        simp [List.getD, hi, hxi]
      · have hxi : ¬ (i : Int) = x := by omega
        simp [List.getD, h, hxi]
    rw [e, List.contains_cons, Bool.or_assoc]
    rfl
def ownF (t : Lm) (m : Nat) : List Int := match t with | .var n => if (m : Int) ≤ n then [n - m] else [] | _ => []
theorem free_kids (t : Lm) (m : Nat) : t.free m = ownF t m ++ t.kids.flatMap (fun s => s.free ((m + t.lams : Nat) : Int)) := by
  cases t with
  | var n => simp [Lm.free, ownF, Lm.kids]
  | lam t => simp [Lm.free, ownF, Lm.kids, Lm.lams]
  | app s t => simp [Lm.free, ownF, Lm.kids, Lm.lams]
theorem kid_ok {t s : Lm} (h : t.ok = true) (hs : s ∈ t.kids) : s.ok = true := by
  cases t with
  | var n => simp [Lm.kids] at hs
  | lam t => simp [Lm.kids] at hs; subst hs; exact h
  | app p q => simp only [Lm.ok, Bool.and_eq_true] at h; simp [Lm.kids] at hs; rcases hs with rfl | rfl; exact h.1; exact h.2

/-- What lcFree marks. -/
def FreC (N : Nat) : Prop := ∀ (t : Lm), t.sz ≤ N → ∀ (m G : Nat) (bs : List Bool) (z : Value) (P : Nat → Prop) (w : World), LcIn w P t z → ¬ P G → bs.length = 100 → RecAt w G 4 bitL bs → t.ok = true → m + t.sz ≤ 100000 →
    Calls Try.prog 51 #[.agg (lcC t.kd t.nm z), .int .i64 (m : Int), .slice (some ⟨G, 0, none⟩) 100 100] w fun e w' => e = .returned (.tuple #[]) ∧ RecAt w' G 4 bitL (markF bs (t.free m)) ∧ w.grownBy w' (some G)
theorem grown_refl (w : World) (r : Option Nat) : w.grownBy w r := ⟨rfl, rfl, rfl, Nat.le_refl _, fun _ _ _ => rfl⟩
theorem grown_alloc (w : World) (o : Obj) (r : Option Nat) : w.grownBy (w.alloc o) r := ⟨rfl, rfl, rfl, by simp, fun k hk _ => Below.heap_alloc _ _ _ hk⟩
theorem grown_trans {a b c : World} {r : Option Nat} (h1 : a.grownBy b r) (h2 : b.grownBy c r) : a.grownBy c r :=
  ⟨h2.os.trans h1.os, h2.tape.trans h1.tape, h2.output.trans h1.output, Nat.le_trans h1.size h2.size, fun k hk hne => by rw [h2.block k (Nat.lt_of_lt_of_le hk h1.size) hne, h1.block k hk hne]⟩

set_option maxHeartbeats 8000000 in
set_option maxRecDepth 100000 in
theorem lcFree_step (N : Nat) (IH : ∀ n, n < N → FreC n) : FreC N := by
  intro t ht m G bs z P w hz hPG hbs hR hok hm
  have HIH := hideT' IH
  have HTN := hideT' ht
  have HOK := hideT' hok
  have HMB := hideT' hm
  obtain ⟨oz, cz, hzz, _⟩ := hz.parts
  have HZ := hideT' hz
  have HPG := hideT' hPG
  have HR := hideT' hR
  have HBS := hideT' hbs
  have hGl := hR.lt
  have HFK := hideT' (free_kids t m)
  have hmk : (m : Int) ≤ 100000 := by omega
  have hm0 : (0 : Int) ≤ (m : Int) := by omega
  by_cases hv : t.kd = 1 ∧ (m : Int) ≤ t.nm
  · cases t with
    | lam t => simp [Lm.kd] at hv
    | app a b => simp [Lm.kd] at hv
    | var n =>
      have hn := hv.2
      simp only [Lm.nm] at hn
      have hn2 : n ≤ 99 := by simp [Lm.ok] at hok; exact hok.2
      obtain ⟨k, hk⟩ : ∃ k : Nat, n - (m : Int) = (k : Int) := ⟨(n - (m : Int)).toNat, by omega⟩
      have hk9 : (k : Int) < 100 := by omega
      have hk9' : k < 100 := by omega
      have hw1 : IntKind.i64.wrap (n - (m : Int)) = (k : Int) := by rw [IntKind.wrap_i64]; omega
      have hkb : k < bs.length := by omega
      have HF : Hid (markF bs ((Lm.var n).free m) = bs.set k true) := by
        unfold Hid
        rw [HFK.out]
        simp only [ownF, Lm.kids, List.flatMap_nil, List.append_nil, if_pos hn]
        rw [hk]
        rfl
      simp only [Lm.kids, List.length_nil] at hzz
      subst hzz
      obtain ⟨W, hW⟩ : ∃ W, W = w.alloc (.cells #[.int .i64 1, .int .i64 n, .slice oz 0 cz] 54) := ⟨_, rfl⟩
      have hRW : RecAt W G 4 bitL bs := by rw [hW]; exact RowAt.old hR _
      have cG : (w.alloc (.cells #[.int .i64 1, .int .i64 n, .slice oz 0 cz] 54)).cell? ⟨G, k, none⟩ = some (.bool (bs.getD k false)) := by rw [← hW]; exact bit_cell hRW hkb
      have fG : (w.alloc (.cells #[.int .i64 1, .int .i64 n, .slice oz 0 cz] 54)).frozen? ⟨G, k, none⟩ = false := by rw [← hW]; exact bit_froz hRW k
      have HE : Hid (RecAt ((w.setCell ⟨G, k, none⟩ (.bool true)).alloc (.cells #[.int .i64 1, .int .i64 n, .slice oz 0 cz] 54)) G 4 bitL (bs.set k true) ∧ w.grownBy ((w.setCell ⟨G, k, none⟩ (.bool true)).alloc (.cells #[.int .i64 1, .int .i64 n, .slice oz 0 cz] 54)) (some G)) := ⟨RowAt.old (bit_set hR k true) _, grown_trans (grown_set w G k (.bool true)) (grown_alloc _ _ _)⟩
      have cz2 : ((w.alloc (.cells #[.int .i64 1, .int .i64 n, .slice oz 0 cz] 54)).setCell ⟨G, k, none⟩ (.bool true)).cell? ⟨w.heap.size, 2, none⟩ = some (.slice oz 0 cz) := by
        rw [World.cell?_of_block (w := w.alloc (.cells #[.int .i64 1, .int .i64 n, .slice oz 0 cz] 54)) (heap_setCell_other _ ⟨G, k, none⟩ w.heap.size _ (by intro e; simp at e; omega)), cell_of_row _ _ _ _ _ _ (RowAt.new w 54 _)]; rfl
      clear IH ht hz hPG hbs hR hok hm hv hRW hk hkb
      show Calls Try.prog 51 #[.agg #[.int .i64 1, .int .i64 n, .slice oz 0 cz], .int .i64 (m : Int), .slice (some ⟨G, 0, none⟩) 100 100] w _
      go_enter Try.func51, Try.ntmps51
      go_wp2_with fail
      go_loopg [26] 0 (fun gg i wr => i = .int .i64 0 ∧ wr = (w.setCell ⟨G, k, none⟩ (.bool true)).alloc (.cells #[.int .i64 1, .int .i64 n, .slice oz 0 cz] 54))
      case atStart => exact ⟨rfl, rfl⟩
      case round =>
        obtain ⟨rfl, rfl⟩ := hrel
        clear cG fG cz2
        go_wp2
        go_end0
        rw [HF.out]
        exact ⟨rfl, HE.out.1, HE.out.2⟩
  · obtain ⟨q, hq⟩ : ∃ q, q = t.kids.length := ⟨_, rfl⟩
    have hq2 : q ≤ 2 := by rw [hq]; cases t <;> simp [Lm.kids]
    rw [← hq] at hzz
    subst hzz
    have HQ := hideT' hq
    obtain ⟨kd, hkd⟩ : ∃ kd, kd = t.kd := ⟨_, rfl⟩
    obtain ⟨nm, hnm⟩ : ∃ nm, nm = t.nm := ⟨_, rfl⟩
    rw [← hkd, ← hnm] at hv
    rw [← hkd, ← hnm]
    have HKN := hideT' (And.intro hkd hnm)
    have HOF : Hid (ownF t m = []) := by
      unfold Hid
      cases t with
      | var n =>
        simp only [Lm.kd, Lm.nm] at hkd hnm
        subst hkd hnm
        simp only [true_and] at hv
        simp [ownF]; omega
      | lam t => rfl
      | app a b => rfl
    have HLM : Hid ((kd = 2 → t.lams = 1) ∧ (¬ kd = 2 → t.lams = 0)) := by
      unfold Hid
      rw [hkd]
      cases t <;> simp [Lm.kd, Lm.lams]
    have hdec : (decide (kd = 1) && decide ((m : Int) ≤ nm)) = false := by
      simp only [Bool.and_eq_false_iff, decide_eq_false_iff_not]
      by_cases h1 : kd = 1
      · right; intro h2; exact hv ⟨h1, h2⟩
      · exact .inl h1
    have HRT : Hid (RowAt (w.alloc (.cells #[.int .i64 kd, .int .i64 nm, .slice oz q cz] 54)) w.heap.size 54 #[.int .i64 kd, .int .i64 nm, .slice oz q cz]) := RowAt.new _ _ _
    have HGA : Hid (w.grownBy (w.alloc (.cells #[.int .i64 kd, .int .i64 nm, .slice oz q cz] 54)) (some G)) := grown_alloc _ _ _
    have HRA : Hid (RecAt (w.alloc (.cells #[.int .i64 kd, .int .i64 nm, .slice oz q cz] 54)) G 4 bitL bs) := RowAt.old hR _
    clear IH ht hz hPG hbs hR hok hm hq hkd hnm
    show Calls Try.prog 51 #[.agg #[.int .i64 kd, .int .i64 nm, .slice oz q cz], .int .i64 (m : Int), .slice (some ⟨G, 0, none⟩) 100 100] w _
    have HK3 : Hid (kd = 1 ∨ kd = 2 ∨ kd = 3) := by unfold Hid; rw [HKN.out.1]; cases t <;> simp [Lm.kd]
    go_enter Try.func51, Try.ntmps51
    rcases HK3.out with hk1 | hk2 | hk3
    · have hk1 : kd = 1 := hk1
      subst hk1
      have hnl : ¬ (m : Int) ≤ nm := fun h => hv ⟨rfl, h⟩
      go_wp2_with fail
      go_loopg [26] q (fun gg i wr => ∃ (As Bs : List Lm), gg = Bs.length ∧ Hid (t.kids = As ++ Bs) ∧ i = .int .i64 (As.length : Int) ∧ Hid (RecAt wr G 4 bitL (markF bs (As.flatMap fun s => s.free ((m + t.lams : Nat) : Int))) ∧ RowAt wr w.heap.size 54 #[.int .i64 1, .int .i64 nm, .slice oz q cz] ∧ w.grownBy wr (some G)))
      case atStart => exact ⟨[], t.kids, by rw [HQ.out], rfl, rfl, ⟨HRA.out, HRT.out, HGA.out⟩⟩
      case round =>
        obtain ⟨As, Bs, hgg, HA, rfl, HS⟩ := hrel
        obtain ⟨j, hj⟩ : ∃ j, j = As.length := ⟨_, rfl⟩
        rw [← hj]
        have HJ := hideT' hj
        obtain ⟨hRr, hRowr, hgw⟩ := HS.out
        cases Bs with
        | nil =>
          have hjm : j = q := by rw [hj, HQ.out, HA.out]; simp
          have hnl2 : ¬ (j : Int) < (q : Int) := by omega
          have HEND : Hid (RecAt wr G 4 bitL (markF bs (t.free m))) := by
            unfold Hid
            rw [HFK.out, HOF.out, List.nil_append, HA.out, List.append_nil]; exact hRr
          have HGW := hideT' hgw
          clear hgg hjm hj hRr hRowr hgw HS
          go_wp2
          go_end0
          exact ⟨rfl, HEND.out, HGW.out⟩
        | cons T Bs =>
          have hil : (j : Int) < (q : Int) := by rw [HQ.out, HA.out, List.length_append, ← hj]; simp; omega
          have hkj : t.kids[j]? = some T := by rw [HA.out, hj]; simp
          have hTm : T ∈ t.kids := List.mem_of_getElem? hkj
          have hzr : LcIn wr P t (.slice oz q cz) := LcIn.keep (w := w) hgw.size (fun x hx hl => hgw.block x hl (fun e => by cases e; exact HPG.out hx)) (fun x hx hl => hx) HZ.out
          obtain ⟨o', c', e', hpart⟩ := hzr.parts
          injection e' with e1 e2 e3
          subst e1 e3
          clear e2
          obtain ⟨g, z1, hoz, hg, ⟨c0, c1, c2⟩, hz1⟩ := hpart j T hkj
          subst hoz
          have hg1 := hg.1
          obtain ⟨oz1, cz1, hzz1'⟩ := hz1.form
          subst hzz1'
          have hTs := Lm.kids_lt hTm
          have hGr := hRr.lt
          obtain ⟨W2, hW2⟩ : ∃ W2, W2 = wr.alloc (.cells #[.int .i64 T.kd, .int .i64 T.nm, .slice oz1 T.kids.length cz1] 54) := ⟨_, rfl⟩
          have hR2 : RecAt W2 G 4 bitL (markF bs (As.flatMap fun s => s.free ((m + t.lams : Nat) : Int))) := by rw [hW2]; exact RowAt.old hRr _
          have hz2 : LcIn W2 P T (.slice oz1 T.kids.length cz1) := by rw [hW2]; exact LcIn.below ((Below.refl _ _).alloc (Nat.le_refl _) _) hz1
          have HCALL := hideT' (HIH.out T.sz (by have := HTN.out; omega) T (Nat.le_refl _) (m + t.lams) G _ _ P W2 hz2 HPG.out (by rw [markF_len]; exact HBS.out) hR2 (kid_ok HOK.out hTm) (by have := HMB.out; have : t.lams ≤ 1 := (by cases t <;> simp [Lm.lams]); omega))
          rw [← markF_app] at HCALL
          have HA2 : Hid (t.kids = (As ++ [T]) ++ Bs) := by unfold Hid; rw [HA.out]; simp
          have HFL : Hid ((As ++ [T]).flatMap (fun s => s.free ((m + t.lams : Nat) : Int)) = (As.flatMap fun s => s.free ((m + t.lams : Nat) : Int)) ++ T.free ((m + t.lams : Nat) : Int)) := by unfold Hid; rw [List.flatMap_append, List.flatMap_singleton]
          have HGW2 : Hid (w.grownBy W2 (some G)) := by unfold Hid; rw [hW2]; exact grown_trans hgw (grown_alloc _ _ _)
          have HROW2 : Hid (RowAt W2 w.heap.size 54 #[.int .i64 1, .int .i64 nm, .slice (some ⟨g, 0, none⟩) q cz]) := by unfold Hid; rw [hW2]; exact RowAt.old hRowr _
          have d0 : (wr.alloc (.cells #[.int .i64 T.kd, .int .i64 T.nm, .slice oz1 T.kids.length cz1] 54)).cell? ⟨w.heap.size, 0, none⟩ = some (.int .i64 1) := by rw [← hW2, cell_of_row _ _ _ _ _ _ HROW2.out]; rfl
          have hwsr : w.heap.size < wr.heap.size := hRowr.lt
          have HGL : Hid (w.heap.size ≠ G) := by have := hGl; unfold Hid; omega
          clear hRr hRowr hgw hzr hpart hz1 hz2 hR2 hkj hTm hj HS
          unfold lcC at HCALL
          exact absurd hil (by have h0 : t.kids = [] := (by have := HKN.out.1; cases t with | var n => rfl | lam t => exact absurd this (by simp [Lm.kd]) | app a b => exact absurd this (by simp [Lm.kd])); have : q = 0 := (by rw [HQ.out, h0]; rfl); omega)
    · subst hk2
      have HLM2 : Hid (t.lams = 1) := HLM.out.1 rfl
      go_wp2_with fail
      go_loopg [26] q (fun gg i wr => ∃ (As Bs : List Lm), gg = Bs.length ∧ Hid (t.kids = As ++ Bs) ∧ i = .int .i64 (As.length : Int) ∧ Hid (RecAt wr G 4 bitL (markF bs (As.flatMap fun s => s.free ((m + t.lams : Nat) : Int))) ∧ RowAt wr w.heap.size 54 #[.int .i64 2, .int .i64 nm, .slice oz q cz] ∧ w.grownBy wr (some G)))
      case atStart => exact ⟨[], t.kids, by rw [HQ.out], rfl, rfl, ⟨HRA.out, HRT.out, HGA.out⟩⟩
      case round =>
        obtain ⟨As, Bs, hgg, HA, rfl, HS⟩ := hrel
        obtain ⟨j, hj⟩ : ∃ j, j = As.length := ⟨_, rfl⟩
        rw [← hj]
        have HJ := hideT' hj
        obtain ⟨hRr, hRowr, hgw⟩ := HS.out
        cases Bs with
        | nil =>
          have hjm : j = q := by rw [hj, HQ.out, HA.out]; simp
          have hnl2 : ¬ (j : Int) < (q : Int) := by omega
          have HEND : Hid (RecAt wr G 4 bitL (markF bs (t.free m))) := by
            unfold Hid
            rw [HFK.out, HOF.out, List.nil_append, HA.out, List.append_nil]; exact hRr
          have HGW := hideT' hgw
          clear hgg hjm hj hRr hRowr hgw HS
          go_wp2
          go_end0
          exact ⟨rfl, HEND.out, HGW.out⟩
        | cons T Bs =>
          have hil : (j : Int) < (q : Int) := by rw [HQ.out, HA.out, List.length_append, ← hj]; simp; omega
          have hkj : t.kids[j]? = some T := by rw [HA.out, hj]; simp
          have hTm : T ∈ t.kids := List.mem_of_getElem? hkj
          have hzr : LcIn wr P t (.slice oz q cz) := LcIn.keep (w := w) hgw.size (fun x hx hl => hgw.block x hl (fun e => by cases e; exact HPG.out hx)) (fun x hx hl => hx) HZ.out
          obtain ⟨o', c', e', hpart⟩ := hzr.parts
          injection e' with e1 e2 e3
          subst e1 e3
          clear e2
          obtain ⟨g, z1, hoz, hg, ⟨c0, c1, c2⟩, hz1⟩ := hpart j T hkj
          subst hoz
          have hg1 := hg.1
          obtain ⟨oz1, cz1, hzz1'⟩ := hz1.form
          subst hzz1'
          have hTs := Lm.kids_lt hTm
          have hGr := hRr.lt
          obtain ⟨W2, hW2⟩ : ∃ W2, W2 = wr.alloc (.cells #[.int .i64 T.kd, .int .i64 T.nm, .slice oz1 T.kids.length cz1] 54) := ⟨_, rfl⟩
          have hR2 : RecAt W2 G 4 bitL (markF bs (As.flatMap fun s => s.free ((m + t.lams : Nat) : Int))) := by rw [hW2]; exact RowAt.old hRr _
          have hz2 : LcIn W2 P T (.slice oz1 T.kids.length cz1) := by rw [hW2]; exact LcIn.below ((Below.refl _ _).alloc (Nat.le_refl _) _) hz1
          have HCALL := hideT' (HIH.out T.sz (by have := HTN.out; omega) T (Nat.le_refl _) (m + t.lams) G _ _ P W2 hz2 HPG.out (by rw [markF_len]; exact HBS.out) hR2 (kid_ok HOK.out hTm) (by have := HMB.out; have : t.lams ≤ 1 := (by cases t <;> simp [Lm.lams]); omega))
          rw [← markF_app] at HCALL
          have HA2 : Hid (t.kids = (As ++ [T]) ++ Bs) := by unfold Hid; rw [HA.out]; simp
          have HFL : Hid ((As ++ [T]).flatMap (fun s => s.free ((m + t.lams : Nat) : Int)) = (As.flatMap fun s => s.free ((m + t.lams : Nat) : Int)) ++ T.free ((m + t.lams : Nat) : Int)) := by unfold Hid; rw [List.flatMap_append, List.flatMap_singleton]
          have HGW2 : Hid (w.grownBy W2 (some G)) := by unfold Hid; rw [hW2]; exact grown_trans hgw (grown_alloc _ _ _)
          have HROW2 : Hid (RowAt W2 w.heap.size 54 #[.int .i64 2, .int .i64 nm, .slice (some ⟨g, 0, none⟩) q cz]) := by unfold Hid; rw [hW2]; exact RowAt.old hRowr _
          have d0 : (wr.alloc (.cells #[.int .i64 T.kd, .int .i64 T.nm, .slice oz1 T.kids.length cz1] 54)).cell? ⟨w.heap.size, 0, none⟩ = some (.int .i64 2) := by rw [← hW2, cell_of_row _ _ _ _ _ _ HROW2.out]; rfl
          have hwsr : w.heap.size < wr.heap.size := hRowr.lt
          have HGL : Hid (w.heap.size ≠ G) := by have := hGl; unfold Hid; omega
          clear hRr hRowr hgw hzr hpart hz1 hz2 hR2 hkj hTm hj HS
          unfold lcC at HCALL
          have HCM : Hid ((m + t.lams : Nat) = m + 1) := by unfold Hid; rw [HLM2.out]
          rw [HCM.out] at HCALL
          have hci : ((m + 1 : Nat) : Int) = (m : Int) + 1 := by omega
          rw [hci] at HCALL
          clear hci
          go_wp2_with fail
          rw [← hW2]
          refine HCALL.out.mono ?_
          rintro e w9 ⟨rfl, hO9, hg9⟩
          have HEND : Hid (RecAt w9 G 4 bitL (markF bs ((As ++ [T]).flatMap fun s => s.free ((m + t.lams : Nat) : Int))) ∧ RowAt w9 w.heap.size 54 #[.int .i64 2, .int .i64 nm, .slice (some ⟨g, 0, none⟩) q cz] ∧ w.grownBy w9 (some G)) := ⟨by rw [HFL.out]; rw [HCM.out]; exact hO9, RowAt.grown HROW2.out hg9 (fun e => by injection e with e; exact HGL.out e), grown_trans HGW2.out hg9⟩
          clear hO9 hg9 hW2 d0
          go_wp2
          go_roundg Bs.length
          case measure => first | omega | (rw [hgg]; simp)
          case rel => exact ⟨As ++ [T], Bs, rfl, HA2, by rw [List.length_append, ← HJ.out]; go_num, HEND⟩
    · subst hk3
      have HLM3 : Hid (t.lams = 0) := HLM.out.2 (by omega)
      go_wp2_with fail
      go_loopg [26] q (fun gg i wr => ∃ (As Bs : List Lm), gg = Bs.length ∧ Hid (t.kids = As ++ Bs) ∧ i = .int .i64 (As.length : Int) ∧ Hid (RecAt wr G 4 bitL (markF bs (As.flatMap fun s => s.free ((m + t.lams : Nat) : Int))) ∧ RowAt wr w.heap.size 54 #[.int .i64 3, .int .i64 nm, .slice oz q cz] ∧ w.grownBy wr (some G)))
      case atStart => exact ⟨[], t.kids, by rw [HQ.out], rfl, rfl, ⟨HRA.out, HRT.out, HGA.out⟩⟩
      case round =>
        obtain ⟨As, Bs, hgg, HA, rfl, HS⟩ := hrel
        obtain ⟨j, hj⟩ : ∃ j, j = As.length := ⟨_, rfl⟩
        rw [← hj]
        have HJ := hideT' hj
        obtain ⟨hRr, hRowr, hgw⟩ := HS.out
        cases Bs with
        | nil =>
          have hjm : j = q := by rw [hj, HQ.out, HA.out]; simp
          have hnl2 : ¬ (j : Int) < (q : Int) := by omega
          have HEND : Hid (RecAt wr G 4 bitL (markF bs (t.free m))) := by
            unfold Hid
            rw [HFK.out, HOF.out, List.nil_append, HA.out, List.append_nil]; exact hRr
          have HGW := hideT' hgw
          clear hgg hjm hj hRr hRowr hgw HS
          go_wp2
          go_end0
          exact ⟨rfl, HEND.out, HGW.out⟩
        | cons T Bs =>
          have hil : (j : Int) < (q : Int) := by rw [HQ.out, HA.out, List.length_append, ← hj]; simp; omega
          have hkj : t.kids[j]? = some T := by rw [HA.out, hj]; simp
          have hTm : T ∈ t.kids := List.mem_of_getElem? hkj
          have hzr : LcIn wr P t (.slice oz q cz) := LcIn.keep (w := w) hgw.size (fun x hx hl => hgw.block x hl (fun e => by cases e; exact HPG.out hx)) (fun x hx hl => hx) HZ.out
          obtain ⟨o', c', e', hpart⟩ := hzr.parts
          injection e' with e1 e2 e3
          subst e1 e3
          clear e2
          obtain ⟨g, z1, hoz, hg, ⟨c0, c1, c2⟩, hz1⟩ := hpart j T hkj
          subst hoz
          have hg1 := hg.1
          obtain ⟨oz1, cz1, hzz1'⟩ := hz1.form
          subst hzz1'
          have hTs := Lm.kids_lt hTm
          have hGr := hRr.lt
          obtain ⟨W2, hW2⟩ : ∃ W2, W2 = wr.alloc (.cells #[.int .i64 T.kd, .int .i64 T.nm, .slice oz1 T.kids.length cz1] 54) := ⟨_, rfl⟩
          have hR2 : RecAt W2 G 4 bitL (markF bs (As.flatMap fun s => s.free ((m + t.lams : Nat) : Int))) := by rw [hW2]; exact RowAt.old hRr _
          have hz2 : LcIn W2 P T (.slice oz1 T.kids.length cz1) := by rw [hW2]; exact LcIn.below ((Below.refl _ _).alloc (Nat.le_refl _) _) hz1
          have HCALL := hideT' (HIH.out T.sz (by have := HTN.out; omega) T (Nat.le_refl _) (m + t.lams) G _ _ P W2 hz2 HPG.out (by rw [markF_len]; exact HBS.out) hR2 (kid_ok HOK.out hTm) (by have := HMB.out; have : t.lams ≤ 1 := (by cases t <;> simp [Lm.lams]); omega))
          rw [← markF_app] at HCALL
          have HA2 : Hid (t.kids = (As ++ [T]) ++ Bs) := by unfold Hid; rw [HA.out]; simp
          have HFL : Hid ((As ++ [T]).flatMap (fun s => s.free ((m + t.lams : Nat) : Int)) = (As.flatMap fun s => s.free ((m + t.lams : Nat) : Int)) ++ T.free ((m + t.lams : Nat) : Int)) := by unfold Hid; rw [List.flatMap_append, List.flatMap_singleton]
          have HGW2 : Hid (w.grownBy W2 (some G)) := by unfold Hid; rw [hW2]; exact grown_trans hgw (grown_alloc _ _ _)
          have HROW2 : Hid (RowAt W2 w.heap.size 54 #[.int .i64 3, .int .i64 nm, .slice (some ⟨g, 0, none⟩) q cz]) := by unfold Hid; rw [hW2]; exact RowAt.old hRowr _
          have d0 : (wr.alloc (.cells #[.int .i64 T.kd, .int .i64 T.nm, .slice oz1 T.kids.length cz1] 54)).cell? ⟨w.heap.size, 0, none⟩ = some (.int .i64 3) := by rw [← hW2, cell_of_row _ _ _ _ _ _ HROW2.out]; rfl
          have hwsr : w.heap.size < wr.heap.size := hRowr.lt
          have HGL : Hid (w.heap.size ≠ G) := by have := hGl; unfold Hid; omega
          clear hRr hRowr hgw hzr hpart hz1 hz2 hR2 hkj hTm hj HS
          unfold lcC at HCALL
          have HCM : Hid ((m + t.lams : Nat) = m) := by unfold Hid; rw [HLM3.out]; rfl
          rw [HCM.out] at HCALL
          go_wp2_with fail
          rw [← hW2]
          refine HCALL.out.mono ?_
          rintro e w9 ⟨rfl, hO9, hg9⟩
          have HEND : Hid (RecAt w9 G 4 bitL (markF bs ((As ++ [T]).flatMap fun s => s.free ((m + t.lams : Nat) : Int))) ∧ RowAt w9 w.heap.size 54 #[.int .i64 3, .int .i64 nm, .slice (some ⟨g, 0, none⟩) q cz] ∧ w.grownBy w9 (some G)) := ⟨by rw [HFL.out]; rw [HCM.out]; exact hO9, RowAt.grown HROW2.out hg9 (fun e => by injection e with e; exact HGL.out e), grown_trans HGW2.out hg9⟩
          clear hO9 hg9 hW2 d0
          go_wp2
          go_roundg Bs.length
          case measure => first | omega | (rw [hgg]; simp)
          case rel => exact ⟨As ++ [T], Bs, rfl, HA2, by rw [List.length_append, ← HJ.out]; go_num, HEND⟩
theorem lcFree_all : ∀ N, FreC N := by
  intro N
  induction N using Nat.strongRecOn with
  | _ N IH => exact lcFree_step N IH

/-- What both FreeIn answer. -/
def FrIB (l : List Nd) : Bool := match readP' l with | none => false | some _ => true
def FrIL (l : List Nd) : List Int := match readP' l with | none => [] | some t => FrL t
theorem FrIL_len (l : List Nd) : (FrIL l).length ≤ 1048576 := by
  unfold FrIL
  split
  · simp
  · have := FrL_len ‹Lm›; omega
def idxB (ms : List Bool) (k : Nat) : List Int := natsI ((List.range k).filter fun i => ms.getD i false)
theorem idxB_succ (ms : List Bool) (k : Nat) : idxB ms (k + 1) = idxB ms k ++ (if ms.getD k false then [(k : Int)] else []) := by
  unfold idxB natsI
  rw [List.range_succ, List.filter_append, List.map_append, List.filter_cons, List.filter_nil]
  by_cases h : ms.getD k false = true
  · rw [if_pos h, if_pos h]; rfl
  · rw [if_neg h, if_neg h]; rfl
theorem idxB_len (ms : List Bool) (k : Nat) : (idxB ms k).length ≤ k := by
  unfold idxB natsI
  rw [List.length_map]
  exact Nat.le_trans (List.length_filter_le _ _) (by simp)
theorem idxB_all {t : Lm} (h : t.ok = true) : idxB (markF (List.replicate 100 false) (t.free 0)) 100 = FrL t := by
  unfold idxB FrL FrN
  congr 1
  refine List.filter_congr fun i hi => ?_
  rw [markF_get _ _ _ (by rw [List.length_replicate]; exact List.mem_range.1 hi) (fun x hx => (Lm.free_range t 0 h (Int.le_refl _) x hx).1)]
  have e : (List.replicate 100 false).getD i false = false := by
    rw [List.getD_eq_getElem?_getD, List.getElem?_replicate]; split <;> rfl
  rw [e, Bool.false_or]
theorem oneB_cell (v : Int) : ∀ u ∈ [Value.int .i64 v], u.oneCell' = true := fun u hu => by simp at hu; subst hu; rfl
theorem own_formB {w : World} {B n s : Nat} {T : TypeId} {v : Value} {xs : List Value} (h : w.ownsRow B T s v n xs) : ∃ o cap, v = .slice o n cap := by
  rcases h.2 with ⟨h1, h0⟩ | ⟨g, cap, cur, h1, _⟩
  · exact ⟨none, 0, by rw [h1, h0]⟩
  · exact ⟨_, _, h1⟩
theorem own_baseB {w : World} {B B' n s : Nat} {T : TypeId} {v : Value} {xs : List Value} (h : w.ownsRow B T s v n xs) (hB : B' ≤ B) : w.ownsRow B' T s v n xs :=
  ⟨h.1, h.2.imp id fun ⟨g, cap, cur, h1, h2, h3⟩ => ⟨g, cap, cur, h1, Nat.le_trans hB h2, h3⟩⟩
set_option maxHeartbeats 8000000 in
set_option maxRecDepth 100000 in
theorem specFreeIn_any (l : List Nd) (v : Value) (w : World) (hv : NdIn w v l) (hl : l.length ≤ 1048576) :
    Calls Try.prog 16 #[v] w fun e w' => (∃ u, e = .returned (.tuple #[u, .bool (FrIB l)]) ∧ OwnR w' w.heap.size u 3 intL 1 (FrIL l)) ∧ Below w.heap.size w w' := by
  have HV := hideT' hv
  have HG := hideT' (specGoodTerm_any l v w hv hl)
  clear hv
  cases hr : readP' l with
  | none =>
    have HN : Hid (FrIB l = false ∧ FrIL l = []) := ⟨by unfold FrIB; rw [hr], by unfold FrIL; rw [hr]⟩
    rw [goodS_none hr] at HG
    clear hr
    go_enter Try.func16, Try.ntmps16
    go_wp2_with fail
    refine HG.out.mono ?_
    rintro e w1 ⟨rfl, hB1⟩
    have HB1 := hideT' hB1
    clear hB1
    go_wp2
    go_ret2
    exact ⟨⟨_, by rw [HN.out.1]; rfl, by rw [HN.out.2]; exact World.ownsRow_nil _ _ _ _⟩, HB1.out⟩
  | some t =>
    have HN : Hid (FrIB l = true ∧ FrIL l = FrL t) := ⟨by unfold FrIB; rw [hr], by unfold FrIL; rw [hr]⟩
    rw [goodS_some hr] at HG
    have f1 := readP'_facts hr
    have HT := hideT' f1
    have HRR := hideT' hr
    obtain ⟨bs0, hbs0⟩ : ∃ bs0, bs0 = List.replicate 100 false := ⟨_, rfl⟩
    have hmk : ∀ w, (Instr.makeSlice 50 (.int .i64 100) (.int .i64 100)).run Try.prog w = .ok (.slice (some ⟨w.heap.size, 0, none⟩) 100 100) (w.alloc (.cells (bs0.flatMap bitL).toArray 4)) := fun w => by rw [hbs0]; exact make_bit 100 (by omega) w
    have HBS := hideT' hbs0
    obtain ⟨i0, hi, hz0, hz1, hz2⟩ := info_parts info_int
    clear hr f1 hbs0
    go_enter Try.func16, Try.ntmps16
    go_wp2_with fail
    refine HG.out.mono ?_
    rintro e w1 ⟨rfl, hB1⟩
    have HB1 := hideT' hB1
    obtain ⟨W, hW⟩ : ∃ W, W = w1.alloc (.cells (bs0.flatMap bitL).toArray 4) := ⟨_, rfl⟩
    have hRW : RecAt W w1.heap.size 4 bitL bs0 := by rw [hW]; exact RowAt.new _ _ _
    have hBW : Below w1.heap.size w1 W := by rw [hW]; exact (Below.refl _ _).alloc (Nat.le_refl _) _
    have hBW2 : Below w.heap.size w W := hB1.trans (hBW.mono hB1.size)
    have HC := hideT' (lcTree_whole l t v W (HV.out.below hBW2) HRR.out)
    have HRW := hideT' hRW
    have HBW := hideT' hBW2
    have hsW : W.heap.size = w1.heap.size + 1 := by rw [hW]; simp
    have hs1 := hB1.size
    clear hRW hBW hBW2 hB1
    go_wp2_with fail
    rw [← hW]
    refine HC.out.mono ?_
    rintro e w2 ⟨⟨z, rfl, hz⟩, hB2⟩
    have hR2 : RecAt w2 w1.heap.size 4 bitL bs0 := RecAt.below HRW.out hB2 (by omega)
    obtain ⟨f1, f2, f3, f4, f5⟩ := HT.out
    have HC2 := hideT' (lcFree_all t.sz t (Nat.le_refl _) 0 w1.heap.size bs0 z _ w2 hz (by omega) (by rw [HBS.out]; simp) hR2 f4 (by omega))
    have HB2 : Hid (Below w.heap.size w w2) := HBW.out.trans (hB2.mono HBW.out.size)
    have hs2 := hB2.size
    obtain ⟨kd, hkd⟩ : ∃ kd, kd = t.kd := ⟨_, rfl⟩
    obtain ⟨nm, hnm⟩ : ∃ nm, nm = t.nm := ⟨_, rfl⟩
    rw [← hkd, ← hnm] at HC2
    rw [← hkd, ← hnm]
    clear hz hB2 hR2 f1 f2 f3 f4 f5 hW hkd hnm hmk
    simp only [Int.ofNat_zero] at HC2
    go_wp2_with fail
    refine HC2.out.mono ?_
    rintro e w3 ⟨rfl, hR3, hg3⟩
    obtain ⟨ms, hms⟩ : ∃ ms, ms = markF bs0 (t.free 0) := ⟨_, rfl⟩
    rw [← hms] at hR3
    have hml : ms.length = 100 := by rw [hms, markF_len, HBS.out]; simp
    have HMS : Hid (idxB ms 100 = FrL t) := by unfold Hid; rw [hms, HBS.out]; exact idxB_all HT.out.2.2.2.1
    have hB3 : Below w.heap.size w w3 := HB2.out.grown hg3 HB2.out.size (fun k hk => by cases hk; omega)
    have hs3 := hg3.size
    have HR3 := hideT' hR3
    have HB3 := hideT' hB3
    have HML := hideT' hml
    clear hms hR3 hg3 hB3 hml
    go_wp2_with fail
    go_loopg [5, 18] 100 (fun g x i wr => ∃ k : Nat, g = 100 - k ∧ k ≤ 100 ∧ i = .int .i64 (k : Int) ∧ OwnR wr (w1.heap.size + 1) x 3 intL 1 (idxB ms k) ∧ RecAt wr w1.heap.size 4 bitL ms ∧ Below w.heap.size w wr ∧ w1.heap.size + 1 ≤ wr.heap.size)
    case atStart => exact ⟨0, rfl, by omega, by go_num, World.ownsRow_nil _ _ _ _, HR3.out, HB3.out, by omega⟩
    case round =>
      obtain ⟨k, hg, hk, rfl, hO, hDr, hW, hsz⟩ := hrel
      obtain ⟨o, cap, hvv⟩ := own_formB hO
      have HO := hideT' hO
      subst hvv
      by_cases hlt : (k : Int) < 100
      · have hk' : k < ms.length := by have := HML.out; omega
        have hbit := bit_cell hDr hk'
        have hsucc := idxB_succ ms k
        have hkl := idxB_len ms k
        obtain ⟨q, hq⟩ : ∃ q, q = ms.getD k false := ⟨_, rfl⟩
        rw [← hq] at hbit hsucc
        clear hq hO
        cases q with
        | false =>
          have HS : Hid (idxB ms (k + 1) = idxB ms k) := by unfold Hid; rw [hsucc]; simp
          clear hsucc
          go_wp2
          go_roundg (100 - (k + 1))
          case measure => omega
          case rel => exact ⟨k + 1, rfl, by omega, by go_num, by rw [HS.out]; exact HO.out, hDr, hW, hsz⟩
        | true =>
          have HS : Hid (idxB ms (k + 1) = idxB ms k ++ [(k : Int)]) := by unfold Hid; rw [hsucc]; simp
          have HDr := hideT' hDr
          clear hsucc hDr
          go_wp2_with (at_builtin; refine wpList_append_own _ rfl _ _ 24 rfl (w1.heap.size + 1) 3 i0 (.int .i64 0) 1 8 Try.underlying24 hi hz0 hz1 hz2 rfl (by decide) _ _ _ rfl (HO.out.alloc _) ⟨wr.heap.size, 0, none⟩ 1 1 [.int .i64 (k : Int)] rfl rfl (cell_one_new _ _ _) (oneB_cell _) (by unfold maxLen; omega) (by omega) (by simp; omega) ?_; intro v' w4 hown' hgrow _)
          have hgb : ∀ g, (Value.slice o (idxB ms k).length cap).ownBlock = some g → w1.heap.size + 1 ≤ g := fun g e => (HO.out.lt g e).1
          go_roundg (100 - (k + 1))
          case measure => omega
          case rel =>
            refine ⟨k + 1, rfl, by omega, by go_num, ?_, ?_, ?_, ?_⟩
            · rw [HS.out]
              unfold OwnR
              rw [List.length_append, List.flatMap_append]
              exact hown'
            · exact RowAt.grown (RowAt.old HDr.out _) hgrow (fun e => by have := hgb _ e.symm; omega)
            · exact (hW.alloc hW.size _).grown hgrow (by have := hW.size; simp; omega) (fun k hk => by have := hgb _ hk; omega)
            · have := hgrow.size
              simp only [World.size_alloc] at this
              omega
      · have hkn : k = 100 := by omega
        subst hkn
        have HF : Hid (OwnR wr (w1.heap.size + 1) (.slice o (idxB ms 100).length cap) 3 intL 1 (FrIL l)) := by
          unfold Hid
          rw [HN.out.2, ← HMS.out]; exact hO
        clear hO
        go_wp2
        go_ret2
        exact ⟨⟨_, by rw [HN.out.1]; rfl, own_baseB HF.out (by omega)⟩, hW⟩
end Go.Proofs.Ytbnagagdboeedaa

/-
  What freeIn of the program answers, and FreeIn.
-/
namespace Go.Proofs.Ytbnagagdboeedaa
open Go.RowKit Go.Shelf BL
set_option linter.unusedVariables false
attribute [local go_sem] Oper.semAt_some

theorem one_slints : (Try.prog.info? 24).map (·.size) = some 1 := by kernel_rfl
/-- A drawn region within a round whose operations only read: one walk in the text's order. -/
theorem quiet_round {id l n : Nat} {Q : Exit → Act → World → Prop} {a : Act} {w : World} {ops : List Oper} (hm : Try.prog.follows .mixedOrders = true) (hd : noDefer ops.toArray = true) (hB : Region.lexB .any ops.toArray = true)
    (h : wpQuiet Try.prog ops.toArray (fun w' => ∃ n, w' = w.drewN n) (fun a' => ∀ w', (∃ n, w' = w.drewN n) → Q .normal a' w') ops a) : (Code.region id ops.toArray true).wpIn (Fence.wide.inRound l) n Try.prog Q a w := by
  simp only [Region.lexB, Bool.and_eq_true] at hB
  refine wpIn_mono (region_round hm hd (fun ⟨_, _, h⟩ => h) (wpAny_of_quiet (C := fun w' => ∃ n, w' = w.drewN n) (Q := fun a' => ∀ w', (∃ n, w' = w.drewN n) → Q .normal a' w') (Q' := Calm Q) (fun _ w' hw' h => Calm.normal (h w' hw')) _ _ _ _ ⟨1, rfl⟩ ?_)) Calm.imp
  have := wpAnyQ_lex (P := Try.prog) (C := fun w' => ∃ n, w' = w.drewN n) (md := .any) hB.1 ops 0 (Array.replicate ops.toArray.size false) a (by simp) (by simpa using hB.2) h
  simpa using this
/-- The free variables among places that a walk came by. -/
def freesOf (pre : List (Spot × Nat)) : List Int := pre.flatMap fun x => x.1.free
theorem freesOf_app (pre : List (Spot × Nat)) (x : Spot × Nat) : freesOf (pre ++ [x]) = freesOf pre ++ x.1.free := by
  unfold freesOf
  rw [List.flatMap_append, List.flatMap_singleton]
theorem freesOf_all {pre : List (Spot × Nat)} {t : Lm} (h : pre.map Prod.fst = t.walk 0 (-1) 0) : freesOf pre = t.free 0 := by
  have := Lm.walk_free t 0 (-1) 0
  rw [← h, List.flatMap_map] at this
  exact this
theorem spot_free_len (x : Spot) : x.free.length ≤ 1 := by
  unfold Spot.free
  split
  · split <;> simp
  · simp
theorem freesOf_len : ∀ (pre : List (Spot × Nat)), (freesOf pre).length ≤ pre.length
  | [] => by simp [freesOf]
  | x :: pre => by
    have := freesOf_len pre
    have h2 := spot_free_len x.1
    have e : freesOf (x :: pre) = x.1.free ++ freesOf pre := rfl
    rw [e, List.length_append, List.length_cons]; omega
/-- What the loop over the walk knows: the slice in its own variable. -/
def FreI (w : World) (pre : List (Spot × Nat)) (V : Nat → Prop) (W : World) : Prop :=
  ∃ v, (∀ z, V z ↔ (z = w.heap.size ∨ v.ownBlock = some z)) ∧ RowAt W w.heap.size 24 #[v] ∧ OwnR W (w.heap.size + 1) v 3 intL 1 (freesOf pre) ∧ Below w.heap.size w W
theorem FreI.lt {w : World} {pre : List (Spot × Nat)} {V : Nat → Prop} {W : World} (h : FreI w pre V W) : ∀ z, V z → z < W.heap.size := by
  obtain ⟨v, hV, hR, hO, hB⟩ := h
  intro z hz
  rcases (hV z).1 hz with rfl | hz
  · exact hR.lt
  · exact (hO.lt z hz).2
theorem FreI.step {w : World} {pre : List (Spot × Nat)} {V : Nat → Prop} {A B : World} {row : Option Nat} (h : FreI w pre V A) (hg : A.grownBy B row) (hr : ∀ r, row = some r → ¬ V r ∧ w.heap.size ≤ r) : FreI w pre V B := by
  obtain ⟨v, hV, hR, hO, hB⟩ := h
  refine ⟨v, hV, hR.grown hg (fun e => (hr _ e.symm).1 ((hV _).2 (.inl rfl))), own_keep hO (fun g hgo => hg.block g (hO.lt g hgo).2 (fun e => (hr _ e.symm).1 ((hV _).2 (.inr hgo)))), hB.grown hg hB.size (fun k e => (hr k e).2)⟩
/-- How a round of freeIn begins. -/
def freAct (w : World) (b sb : Nat) (x : Spot × Nat) : Act := { tmps := #[.pointer (some ⟨b, 0, none⟩), undef, .slice none 0 0, .pointer (some ⟨w.heap.size, 0, none⟩), .pointer (some ⟨sb, 0, none⟩), .pointer (some ⟨x.2, 0, none⟩), .pointer (some ⟨b, 0, none⟩), .func (.func 125) #[] #[.pointer (some ⟨w.heap.size + 1, 0, none⟩)], .agg #[.int .i64 (x.1.at_ : Int), .int .i64 x.1.up, .int .i64 (x.1.lam : Int)], .pointer (some ⟨x.2, 0, none⟩), undef, undef, undef, undef, undef, undef, undef, undef, undef, undef, undef, undef, undef, undef, undef, undef, undef, undef, undef, undef, undef, undef, undef, undef, undef, undef, undef, undef, undef, undef, undef], defers := [] }
set_option maxRecDepth 100000 in
set_option maxHeartbeats 8000000 in
theorem freeIn_any (t : Lm) (b : Nat) (P : Nat → Prop) (w : World) (hT : TrIn w P t b) (hs : t.sz ≤ 1000000) (hok : t.ok = true) :
    Calls Try.prog 55 #[.pointer (some ⟨b, 0, none⟩)] w fun e w' => (∃ u, e = .returned u ∧ OwnR w' w.heap.size u 3 intL 1 (FrL t)) ∧ Below w.heap.size w w' := by
  refine (callsIn_wide (n := 4)).1 ?_
  have HT := hideT' hT
  have HOK := hideT' hok
  clear hT hok
  refine callsIn_of_wp_marks Try.func55 rfl trivial ?_ rfl
  simp only [Try.ntmps55, List.size_toArray, List.length_cons, List.length_nil, Nat.reduceAdd, Nat.reduceSub, Array.replicate_succ, Array.replicate_zero, List.push_toArray, List.append_toArray, List.nil_append, List.cons_append]
  gi_wp2
  refine ⟨trivial, ?_⟩
  gi_at_call 93
  refine (callsIn_wide.2 (walk_any b _)).mono ?_
  rintro e w3 ⟨rfl, hw3⟩
  have hs3 : w3.heap.size = w.heap.size + 2 := by rw [hw3]; simp
  have hB3 : Below w.heap.size w w3 := by rw [hw3]; exact ((Below.refl _ _).alloc (Nat.le_refl _) _).alloc (by simp) _
  have hI0 : FreI w [] (fun z => z = w.heap.size) w3 := by
    refine ⟨.slice none 0 0, fun z => ?_, ?_, World.ownsRow_nil _ _ _ _, hB3⟩
    · simp [Value.ownBlock]
    · rw [hw3]; exact RowAt.old (RowAt.new _ _ _) _
  have hcx : w3.cell? ⟨w.heap.size + 1, 0, none⟩ = some (.pointer (some ⟨b, 0, none⟩)) := by
    have hr : RowAt w3 (w.heap.size + 1) 60 #[.pointer (some ⟨b, 0, none⟩)] := by
      rw [hw3]
      have := RowAt.new (w.alloc (.cells #[.slice none 0 0] 24)) 60 #[.pointer (some ⟨b, 0, none⟩)]
      rwa [World.size_alloc] at this
    rw [cell_of_row _ _ _ _ _ _ hr]; rfl
  have HI0 := hideT' hI0
  have HB3 := hideT' hB3
  have HCX := hideT' hcx
  clear hw3 hI0 hB3 hcx
  simp only [World.size_alloc]
  gi_wp2
  refine range_own (gf := 125) (lb := #[.pointer (some ⟨w.heap.size + 1, 0, none⟩)]) (by rfl) (enters_of Try.func125 (by kernel_rfl) rfl) encS (fun x => rfl) _ _ _ (walk_seq (w.heap.size + 1) t b hs)
    (fun pre x V V' W hVV h => ⟨h.1, TrIn.mono (fun z hz _ hv => hz (hVV z hv)) h.2⟩)
    (FreI w) (fun s V A h => h.lt) (fun s V A B row h hg hr => h.step hg (fun r e => ⟨(hr r e).1, by have := (hr r e).2; omega⟩)) (fun z => z = w.heap.size) HI0.out ?need
    (fun pre x V c W => ∃ sb, c = freAct w b sb x ∧ pre.length < t.sz ∧ (x.1 ∈ t.walk 0 (-1) 0) ∧ FreI w pre V W ∧ RowAt W sb 114 #[.int .i64 (x.1.at_ : Int), .int .i64 x.1.up, .int .i64 (x.1.lam : Int)] ∧ ¬ V sb ∧ TrIn W (fun z => ¬ V z) x.1.t x.2) ?ax ?assign ?body ?done
  case need =>
    intro B V hg hV
    refine ⟨TrIn.keep (w := w) (P := P) (by have := hg.size; omega) (fun x _ hx => ?_) (fun x _ hx hv => ?_) HT.out, ?_⟩
    · rw [hg.block x (by omega) (by simp)]; exact HB3.out.block x hx
    · rcases hV x hv with h | h <;> omega
    · rw [World.cell?_of_block (w := w3) (a := ⟨w.heap.size + 1, 0, none⟩) (hg.block _ (by simp; omega) (by simp))]; exact HCX.out
  case ax =>
    rintro s x V c A B row ⟨sb, h1, hl, ha, h2, h3, h4, h5⟩ hg hr
    exact ⟨sb, h1, hl, ha, h2.step hg (fun r e => ⟨(hr r e).1.1, by have := (hr r e).1.2; omega⟩), TrIn.turn.row_same h3 hg (fun r e => (hr r e).2), h4, TrIn.turn hg (fun r e => (hr r e).2) h5⟩
  case assign =>
    intro l pre x V W K hNx hI hK
    have HI := hideT' hI
    have HK := hideT' hK
    have HNX := hideT' hNx
    unfold encS
    clear hI hK hNx
    gi_wp2
    have hal : Below W.heap.size W (W.alloc (.cells #[.int .i64 (x.1.at_ : Int), .int .i64 x.1.up, .int .i64 (x.1.lam : Int)] 114)) := (Below.refl _ _).alloc (Nat.le_refl _) _
    obtain ⟨⟨post, hpo⟩, hTx⟩ := HNX.out
    have hlen := congrArg List.length hpo
    rw [Lm.walk_len, List.length_append, List.length_map, List.length_cons] at hlen
    refine HK.out _ _ V ⟨W.heap.size, rfl, by omega, ?_, HI.out.step (row := none) ⟨hal.os, hal.tape, hal.output, hal.size, fun k hk _ => hal.block k hk⟩ (fun r e => by cases e), RowAt.new _ _ _, fun h => by have := HI.out.lt _ h; omega, TrIn.below hal hTx⟩ (MoreB.refl _ _) (KeepsB.below hal)
    rw [hpo]; simp
  case body =>
    rintro l pre x V c W ⟨sb, rfl, hpl, hmem, hI, hR, hVs, hTx⟩
    unfold freAct
    obtain ⟨v, hV, hRv, hO, hB⟩ := hI
    obtain ⟨ov, cap, hvv⟩ := own_formT hO
    subst hvv
    have hls := freesOf_len pre
    have hra := freesOf_app pre x
    obtain ⟨u2, d0, d1, d2⟩ := hTx.own3
    have hws := Lm.walk_sub t 0 (-1) 0 x.1 hmem
    have hdl := t.dp_sz
    obtain ⟨kd, hkd⟩ : ∃ kd, kd = x.1.t.kd := ⟨_, rfl⟩
    obtain ⟨nm, hnm⟩ : ∃ nm, nm = x.1.t.nm := ⟨_, rfl⟩
    obtain ⟨lm, hlm⟩ : ∃ lm, lm = x.1.lam := ⟨_, rfl⟩
    rw [← hkd] at d0
    rw [← hnm] at d1
    rw [← hlm] at hR hws
    have hcl : W.cell? ⟨sb, 2, none⟩ = some (.int .i64 (lm : Int)) := by rw [cell_of_row _ _ _ _ _ _ hR]; rfl
    have hcv : W.cell? ⟨w.heap.size, 0, none⟩ = some (.slice ov (freesOf pre).length cap) := by rw [cell_of_row _ _ _ _ _ _ hRv]; rfl
    have hfr : x.1.free = if kd = 1 ∧ (lm : Int) ≤ nm then [nm - (lm : Int)] else [] := by
      rw [hkd, hnm, hlm]
      unfold Spot.free
      cases x.1.t <;> simp [Lm.kd, Lm.nm]
    have hn9 : kd = 1 → -1000000 ≤ nm ∧ nm ≤ 1000000 := by
      intro hk1
      have h1 := HOK.out
      rw [Lm.walk_ok t 0 (-1) 0, List.all_eq_true] at h1
      have h2 := h1 x.1 hmem
      rw [hkd] at hk1
      rw [hnm]
      revert h2 hk1
      cases x.1.t <;> simp [Lm.kd, Lm.nm] <;> omega
    have hlm9 : (lm : Int) ≤ 1000000 := by omega
    have hlm0 : (0 : Int) ≤ (lm : Int) := by omega
    rw [← hlm]
    have hxl := hTx.lt
    have hwz := hRv.lt
    have hsb := hR.lt
    have HXO : Hid ((Value.slice ov (freesOf pre).length cap).ownBlock ≠ some x.2) := fun e => hTx.inP ((hV _).2 (.inr e))
    have HBO : Hid ((Value.slice ov (freesOf pre).length cap).ownBlock ≠ some w.heap.size) := fun e => by have := (hO.lt _ e).1; omega
    have HSO : Hid ((Value.slice ov (freesOf pre).length cap).ownBlock ≠ some sb) := fun e => hVs ((hV _).2 (.inr e))
    have HXB : Hid (x.2 ≠ w.heap.size) := fun e => hTx.inP ((hV _).2 (.inl e))
    have HSB : Hid (sb ≠ w.heap.size) := fun e => hVs ((hV _).2 (.inl e))
    have HV := hideT' hV
    have HRV := hideT' hRv
    have HRS := hideT' hR
    have HO := hideT' hO
    have HB := hideT' hB
    have HD := hideT' (And.intro d0 d1)
    have HHN := hideT' hn9
    clear hV hRv hO hB hR hTx hkd hnm hlm hws hdl hmem d2 hn9 hVs
    by_cases hv : kd = 1 ∧ (lm : Int) ≤ nm
    · have HRA : Hid (freesOf (pre ++ [x]) = freesOf pre ++ [nm - (lm : Int)]) := by unfold Hid; rw [hra, hfr, if_pos hv]
      obtain ⟨hk1, hle⟩ := hv
      subst hk1
      have hw1 : IntKind.i64.wrap (nm - (lm : Int)) = nm - (lm : Int) := by have := HHN.out rfl; rw [IntKind.wrap_i64]; omega
      clear hra hfr
      obtain ⟨i0, hi, hz0, hz1, hz2⟩ := info_parts info_int
      gi_wp2
      refine quiet_round (by kernel_rfl) (by kernel_rfl) (by kernel_rfl) ?_
      repeat (go_big_quiet_step (fail))
      refine wpQuiet_nil ?_
      rintro _ ⟨nq, rfl⟩
      gi_wp2
      have hS : RowAt (W.drewN nq).drew w.heap.size 24 #[.slice ov (freesOf pre).length cap] ∧ (W.drewN nq).drew.cell? ⟨x.2, 1, none⟩ = some (.int .i64 nm) ∧ (W.drewN nq).drew.cell? ⟨sb, 2, none⟩ = some (.int .i64 (lm : Int)) := ⟨HRV.out, HD.out.2, hcl⟩
      refine lateR [11] (fun w' => RowAt w' w.heap.size 24 #[.slice ov (freesOf pre).length cap] ∧ w'.cell? ⟨x.2, 1, none⟩ = some (.int .i64 nm) ∧ w'.cell? ⟨sb, 2, none⟩ = some (.int .i64 (lm : Int))) (by kernel_rfl) (by kernel_rfl) ?_
      refine late_val 0 (some 26) rfl rfl (by kernel_rfl) (by kernel_rfl) (by kernel_rfl) [10, 11] (by kernel_rfl) calm_put rfl (.slice ov (freesOf pre).length cap) (fun w' h => by have c : w'.cell? ⟨w.heap.size, 0, none⟩ = some (.slice ov (freesOf pre).length cap) := (by rw [cell_of_row w' _ _ _ _ _ h.1]; rfl); go_simp) hS ?_
      simp only [Act.put, List.setIfInBounds_toArray, List.set_cons_zero, List.set_cons_succ]
      refine late_val 1 (some 27) rfl rfl (by kernel_rfl) (by kernel_rfl) (by kernel_rfl) [2, 3, 4, 5, 8, 9, 10, 11] (by kernel_rfl) calm_put rfl (.pointer (some ⟨x.2, 0, none⟩)) (fun _ _ => by go_simp) hS ?_
      simp only [Act.put, List.setIfInBounds_toArray, List.set_cons_zero, List.set_cons_succ]
      refine late_val 2 (some 28) rfl rfl (by kernel_rfl) (by kernel_rfl) (by kernel_rfl) [3, 4, 5, 8, 9, 10, 11] (by kernel_rfl) calm_put rfl (.pointer (some ⟨x.2, 0, none⟩)) (fun _ _ => by go_simp) hS ?_
      simp only [Act.put, List.setIfInBounds_toArray, List.set_cons_zero, List.set_cons_succ]
      refine late_val 3 (some 29) rfl rfl (by kernel_rfl) (by kernel_rfl) (by kernel_rfl) [4, 5, 8, 9, 10, 11] (by kernel_rfl) calm_put rfl (.pointer (some ⟨x.2, 0, none⟩)) (fun _ _ => by go_simp) hS ?_
      simp only [Act.put, List.setIfInBounds_toArray, List.set_cons_zero, List.set_cons_succ]
      refine late_val 4 (some 30) rfl rfl (by kernel_rfl) (by kernel_rfl) (by kernel_rfl) [5, 8, 9, 10, 11] (by kernel_rfl) calm_put rfl (.pointer (some ⟨x.2, 1, none⟩)) (fun _ _ => by go_simp) hS ?_
      simp only [Act.put, List.setIfInBounds_toArray, List.set_cons_zero, List.set_cons_succ]
      refine late_val 5 (some 31) rfl rfl (by kernel_rfl) (by kernel_rfl) (by kernel_rfl) [8, 9, 10, 11] (by kernel_rfl) calm_put rfl (.int .i64 nm) (fun w' h => by have c := h.2.1; go_simp) hS ?_
      simp only [Act.put, List.setIfInBounds_toArray, List.set_cons_zero, List.set_cons_succ]
      refine late_val 6 (some 32) rfl rfl (by kernel_rfl) (by kernel_rfl) (by kernel_rfl) [7, 8, 9, 10, 11] (by kernel_rfl) calm_put rfl (.pointer (some ⟨sb, 2, none⟩)) (fun _ _ => by go_simp) hS ?_
      simp only [Act.put, List.setIfInBounds_toArray, List.set_cons_zero, List.set_cons_succ]
      refine late_val 7 (some 33) rfl rfl (by kernel_rfl) (by kernel_rfl) (by kernel_rfl) [8, 9, 10, 11] (by kernel_rfl) calm_put rfl (.int .i64 (lm : Int)) (fun w' h => by have c := h.2.2; go_simp) hS ?_
      simp only [Act.put, List.setIfInBounds_toArray, List.set_cons_zero, List.set_cons_succ]
      refine late_val 8 (some 34) rfl rfl (by kernel_rfl) (by kernel_rfl) (by kernel_rfl) [9, 10, 11] (by kernel_rfl) calm_put rfl (.int .i64 (nm - (lm : Int))) (fun _ _ => by go_simp) hS ?_
      simp only [Act.put, List.setIfInBounds_toArray, List.set_cons_zero, List.set_cons_succ]
      have keepS : ∀ w', (∀ b, b < W.heap.size → (Value.slice ov (freesOf pre).length cap).ownBlock ≠ some b → w'.heap[b]? = W.heap[b]?) → (RowAt w' w.heap.size 24 #[.slice ov (freesOf pre).length cap] ∧ w'.cell? ⟨x.2, 1, none⟩ = some (.int .i64 nm) ∧ w'.cell? ⟨sb, 2, none⟩ = some (.int .i64 (lm : Int))) := fun w' hk => by
        have c0 : w'.cell? ⟨x.2, 1, none⟩ = W.cell? ⟨x.2, 1, none⟩ := World.cell?_of_block (w := W) (a := ⟨x.2, 1, none⟩) (hk x.2 hxl HXO.out)
        have c1 : w'.cell? ⟨sb, 2, none⟩ = W.cell? ⟨sb, 2, none⟩ := World.cell?_of_block (w := W) (a := ⟨sb, 2, none⟩) (hk sb hsb HSO.out)
        exact ⟨by unfold RowAt; rw [hk _ hwz HBO.out]; exact HRV.out, by rw [c0]; exact HD.out.2, by rw [c1]; exact hcl⟩
      obtain ⟨W5, hW5⟩ : ∃ W5, W5 = (W.drewN nq).drew := ⟨_, rfl⟩
      have hB5 : Below W.heap.size W W5 := by rw [hW5]; exact ⟨rfl, rfl, rfl, Nat.le_refl _, fun _ _ => rfl⟩
      have hs5 : W5.heap.size = W.heap.size := by rw [hW5]; rfl
      rw [← hW5]
      have hS2 := keepS (W5.alloc (.cells #[.int .i64 (nm - (lm : Int))] 3)) (fun b hb _ => by rw [Below.heap_alloc _ _ _ (by omega)]; exact hB5.block b hb)
      refine late_ready 9 (some 35) (by kernel_rfl) rfl rfl rfl (.slice (some ⟨W5.heap.size, 0, none⟩) 1 1) (W5.alloc (.cells #[.int .i64 (nm - (lm : Int))] 3)) (by go_simp) (.inr hS2) ?_
      simp only [Act.put, List.setIfInBounds_toArray, List.set_cons_zero, List.set_cons_succ]
      have hO5 : W5.ownsRow (w.heap.size + 1) 3 1 (.slice ov (freesOf pre).length cap) (freesOf pre).length ((freesOf pre).flatMap intL) := own_keep HO.out (fun b hb => hB5.block b (HO.out.lt b hb).2)
      refine late_one 10 (by kernel_rfl) rfl rfl fun K hK => ?_
      refine append_own3_wp _ _ _ 24 rfl (w.heap.size + 1) 3 i0 (.int .i64 0) 1 8 Try.underlying24 hi hz0 hz1 hz2 rfl (by decide) (.slice ov (freesOf pre).length cap) (freesOf pre).length _ rfl (hO5.alloc _) ⟨W5.heap.size, 0, none⟩ 1 1 [.int .i64 (nm - (lm : Int))] rfl rfl (cell_one_new _ _ _) (oneB_cell _) (by omega) (by unfold maxLen; omega) (by omega) (by simp; omega) ?_
      intro v6 w6 hv6 hg6 hb6
      have hs6 := hg6.size
      simp only [World.size_alloc] at hs6 hb6
      have hgx : ∀ b, b < W.heap.size → (Value.slice ov (freesOf pre).length cap).ownBlock ≠ some b → w6.heap[b]? = W.heap[b]? := fun b hb hbo => by
        rw [hg6.block b (by simp; omega) (fun e => hbo e.symm), Below.heap_alloc _ _ _ (by omega)]; exact hB5.block b hb
      have hS6 := keepS w6 hgx
      refine hK.out _ _ (.inr hS6) ?_
      simp only [Act.put, List.setIfInBounds_toArray]
      obtain ⟨o6, c6, rfl⟩ := own_formT hv6
      refine late_one 11 (by kernel_rfl) rfl rfl fun K8 hK8 => ?_
      refine store_at_wp 24 _ _ rfl rfl w.heap.size 0 (.slice o6 ((freesOf pre).length + 1) c6) rfl rfl one_slints rfl 24 #[.slice ov (freesOf pre).length cap] hS6.1 (show 0 < 1 by omega) ?_
      intro w7 hR7 hg7 hs7
      refine hK8.out _ _ (.inl ⟨11, by simp, rfl⟩) ?_
      refine late_done (by kernel_rfl) ?_ _
      refine Calm.normal ?_
      have hob : ∀ z, z < W.heap.size → ¬ V z → w7.heap[z]? = W.heap[z]? := fun z hz hv => by
        rw [hg7.block z (by omega) (by intro e; injection e with e; exact hv ((HV.out z).2 (.inl e)))]
        exact hgx z hz (fun e => hv ((HV.out z).2 (.inr e)))
      have HFIN : Hid (∃ V', FreI w (pre ++ [x]) V' w7 ∧ MoreB V V' W ∧ KeepsB V W w7) := by
        refine ⟨fun z => z = w.heap.size ∨ (Value.slice o6 ((freesOf pre).length + 1) c6).ownBlock = some z, ⟨_, fun z => Iff.rfl, hR7, ?_, ?_⟩, ?_, ⟨by omega, hob⟩⟩
        · unfold OwnR
          rw [HRA.out, List.length_append, List.flatMap_append]
          exact own_keep hv6 (fun b hb => hg7.block b (hv6.lt b hb).2 (by intro e; injection e with e; have := (hv6.lt b hb).1; omega))
        · refine HB.out.trans ⟨hg7.os.trans (hg6.os.trans hB5.os), hg7.tape.trans (hg6.tape.trans hB5.tape), hg7.output.trans (hg6.output.trans hB5.output), by omega, fun j hj => ?_⟩
          exact hob j (by omega) (fun h => by
            rcases (HV.out j).1 h with e | e
            · omega
            · have := (HO.out.lt j e).1; omega)
        · intro z hz
          rcases hz with rfl | hz
          · exact .inl ((HV.out _).2 (.inl rfl))
          · rcases hb6 with h | h
            · exact .inl ((HV.out z).2 (.inr (by rw [← h]; exact hz)))
            · rw [h] at hz
              injection hz with hz
              exact .inr (by omega)
      exact HFIN.out
    · have HRA : Hid (freesOf (pre ++ [x]) = freesOf pre) := by unfold Hid; rw [hra, hfr, if_neg hv, List.append_nil]
      clear hra hfr
      have HEX : ∀ k, Hid (∃ V', FreI w (pre ++ [x]) V' (W.drewN k) ∧ MoreB V V' W ∧ KeepsB V W (W.drewN k)) := fun k => by
        refine ⟨V, ⟨_, HV.out, HRV.out, by rw [HRA.out]; exact HO.out, ⟨HB.out.os, HB.out.tape, HB.out.output, HB.out.size, HB.out.block⟩⟩, MoreB.refl _ _, ⟨Nat.le_refl _, fun _ _ _ => rfl⟩⟩
      by_cases hk1 : kd = 1
      · subst hk1
        have hle : ¬ (lm : Int) ≤ nm := fun h => hv ⟨rfl, h⟩
        gi_wp2
        refine quiet_round (by kernel_rfl) (by kernel_rfl) (by kernel_rfl) ?_
        repeat (go_big_quiet_step (fail))
        refine wpQuiet_nil ?_
        rintro _ ⟨nq, rfl⟩
        gi_wp2
        exact (HEX nq).out
      · have hkb : (kd == 1) = false := by simpa using hk1
        gi_wp2
        refine quiet_round (by kernel_rfl) (by kernel_rfl) (by kernel_rfl) ?_
        repeat (go_big_quiet_step (fail))
        refine wpQuiet_nil ?_
        rintro _ ⟨nq, rfl⟩
        gi_wp2
        exact (HEX nq).out
  case done =>
    rintro D ys V W hD hS ⟨v, hV, hRv, hO, hB⟩ hVD hK
    obtain ⟨ov, cap, hvv⟩ := own_formT hO
    subst hvv
    have hfl := Lm.free_len t 0
    rw [← freesOf_all hS] at hfl
    have HFA := hideT' (freesOf_all hS)
    have hcv : W.cell? ⟨w.heap.size, 0, none⟩ = some (.slice ov (freesOf ys).length cap) := by rw [cell_of_row _ _ _ _ _ _ hRv]; rfl
    have HC1 := hideT' (sorted_any (w.heap.size + 1) (freesOf ys) _ W hO (by omega))
    have HRV := hideT' hRv
    have HLT : Hid (∀ g, (Value.slice ov (freesOf ys).length cap).ownBlock = some g → w.heap.size + 1 ≤ g) := fun g e => (hO.lt g e).1
    have HB := hideT' hB
    have HKD := hideT' hK
    have HVD := hideT' hVD
    have HV := hideT' hV
    clear hO hB hK hRv hV hVD
    gi_wp2
    refine ⟨trivial, ?_⟩
    gi_at_call 94
    refine (callsIn_wide.2 HC1.out).mono ?_
    rintro e w5 ⟨rfl, hO5, hg5⟩
    have hDV : (Value.slice ov (freesOf ys).length cap).ownBlock ≠ some D := fun e => HVD.out ((HV.out D).2 (.inr e))
    have hDl : D < W.heap.size := (Array.getElem?_eq_some_iff.1 HKD.out).1
    have hwl : w.heap.size < W.heap.size := HRV.out.lt
    have hK5 : w5.heap[D]? = some (.deferred (some [])) := by rw [hg5.block D hDl (fun e => hDV e.symm)]; exact HKD.out
    have hR5 : RowAt w5 w.heap.size 24 #[.slice ov (freesOf ys).length cap] := HRV.out.grown hg5 (fun e => by have := HLT.out _ e.symm; omega)
    have hcv5 : w5.cell? ⟨w.heap.size, 0, none⟩ = some (.slice ov (freesOf ys).length cap) := by rw [cell_of_row _ _ _ _ _ _ hR5]; rfl
    have hB5 : Below w.heap.size w w5 := HB.out.grown hg5 HB.out.size (fun k e => by have := HLT.out k e; omega)
    have HC2 := hideT' (compact_any (w.heap.size + 1) _ _ w5 hO5 (by rw [List.length_mergeSort]; omega))
    have HCE : Go.Lib.compact ((freesOf ys).mergeSort fun x y => decide (x ≤ y)) = FrL t := by rw [HFA.out]; exact FrL_compact HOK.out
    rw [HCE] at HC2
    clear HCE
    have hs5 := hg5.size
    have HK5 := hideT' hK5
    have HB5 := hideT' hB5
    have HDV := hideT' hDV
    clear hO5 hg5 hK5 hR5 hB5 hcv hDV
    gi_wp2
    refine ⟨trivial, ?_⟩
    gi_at_call 95
    refine (callsIn_wide.2 HC2.out).mono ?_
    rintro e w6 ⟨⟨u, rfl, hO6⟩, hg6⟩
    have hK6 : w6.heap[D]? = some (.deferred (some [])) := by rw [hg6.block D (by omega) (fun e => HDV.out e.symm)]; exact HK5.out
    have hB6 : Below w.heap.size w w6 := HB5.out.grown hg6 HB5.out.size (fun k e => by have := HLT.out k e; omega)
    have HK6 := hideT' hK6
    have HB6 := hideT' hB6
    have HO6 := hideT' hO6
    clear hO6 hg6 hK6 hB6 hcv5
    gi_wp2
    refine leave_marks (v := u) HK6.out (by simp [results, Try.results55, go_sem]) ⟨⟨_, rfl, ?_⟩, below_put HB6.out (by omega) HB6.out.size⟩
    have h1 := HO6.out
    exact ⟨h1.1, h1.2.imp id fun ⟨g, cap, cur, h1, h2, h3, h4⟩ => ⟨g, cap, cur, h1, by omega, row_put h3 HK6.out rfl, h4⟩⟩
end Go.Proofs.Ytbnagagdboeedaa

/-
  What FreeIn and closedTerm of the program answer.
-/
namespace Go.Proofs.Ytbnagagdboeedaa
open Go.RowKit Go.Shelf BL
set_option linter.unusedVariables false

set_option maxHeartbeats 4000000 in
theorem implFreeIn_any (l : List Nd) (v : Value) (w : World) (hv : NdIn w v l) (hl : l.length ≤ 1048576) :
    Calls Try.prog 18 #[v] w fun e w' => (∃ u, e = .returned (.tuple #[u, .bool (FrIB l)]) ∧ OwnR w' w.heap.size u 3 intL 1 (FrIL l)) ∧ Below w.heap.size w w' := by
  have HC := hideT' (readTree_any l v w hv hl)
  clear hv
  go_enter Try.func18, Try.ntmps18
  go_wp2_with fail
  refine HC.out.mono ?_
  rintro e w1 ⟨hans, hB1⟩
  have HB1 := hideT' hB1
  clear hB1
  rcases hans with ⟨p, rfl, hn⟩ | ⟨t, b, rfl, hr, hT⟩
  · have HN : Hid (FrIB l = false ∧ FrIL l = []) := ⟨by unfold FrIB; rw [hn], by unfold FrIL; rw [hn]⟩
    clear hn
    go_wp2
    go_ret2
    exact ⟨⟨_, by rw [HN.out.1]; rfl, by rw [HN.out.2]; exact World.ownsRow_nil _ _ _ _⟩, HB1.out⟩
  · have HN : Hid (FrIB l = true ∧ FrIL l = FrL t) := ⟨by unfold FrIB; rw [hr], by unfold FrIL; rw [hr]⟩
    have f1 := readP'_facts hr
    have HC2 := hideT' (freeIn_any t b _ w1 hT (by omega) f1.2.2.2.1)
    clear hr hT f1
    go_wp2_with fail
    refine HC2.out.mono ?_
    rintro e w2 ⟨⟨u, rfl, hO⟩, hB2⟩
    have HO := hideT' hO
    have HB2 : Hid (Below w.heap.size w w2) := HB1.out.trans (hB2.mono HB1.out.size)
    clear hO hB2
    go_wp2
    go_ret2
    exact ⟨⟨_, by rw [HN.out.1]; rfl, by rw [HN.out.2]; exact own_baseB HO.out HB1.out.size⟩, HB2.out⟩

/-- What closedTerm answers. -/
def ClAns (w : World) (l : List Nd) (e : Ending) (w' : World) : Prop :=
  (∃ p, e = .returned (.tuple #[.pointer p, .bool false]) ∧ clR l = none) ∨ ∃ t b, e = .returned (.tuple #[.pointer (some ⟨b, 0, none⟩), .bool true]) ∧ clR l = some t ∧ TrIn w' (fun x => w.heap.size ≤ x) t b
set_option maxHeartbeats 4000000 in
theorem closedTerm_any (l : List Nd) (v : Value) (w : World) (hv : NdIn w v l) (hl : l.length ≤ 1048576) :
    Calls Try.prog 77 #[v] w fun e w' => ClAns w l e w' ∧ Below w.heap.size w w' := by
  have HC := hideT' (readTree_any l v w hv hl)
  clear hv
  go_enter Try.func77, Try.ntmps77
  go_wp2_with fail
  refine HC.out.mono ?_
  rintro e w1 ⟨hans, hB1⟩
  have HB1 := hideT' hB1
  clear hB1
  rcases hans with ⟨p, rfl, hn⟩ | ⟨t, b, rfl, hr, hT⟩
  · have HN := hideT' (clR_none hn)
    clear hn
    go_wp2
    go_ret2
    exact ⟨.inl ⟨_, rfl, HN.out⟩, HB1.out⟩
  · have f1 := readP'_facts hr
    have HC2 := hideT' (freeIn_any t b _ w1 hT (by omega) f1.2.2.2.1)
    have HT := hideT' hT
    obtain ⟨n, hn⟩ : ∃ n, n = (FrL t).length := ⟨_, rfl⟩
    have HNN : Hid (n = 0 ↔ t.free 0 = []) := by
      unfold Hid
      rw [hn, List.length_eq_zero_iff]; exact FrL_nil f1.2.2.2.1
    have HNL := hideT' hn
    have HR := hideT' hr
    clear hr hT f1 hn
    go_wp2_with fail
    refine HC2.out.mono ?_
    rintro e w2 ⟨⟨u, rfl, hO⟩, hB2⟩
    obtain ⟨o, cap, rfl⟩ := own_formT hO
    rw [← HNL.out]
    have HT2 : Hid (TrIn w2 (fun x => w.heap.size ≤ x) t b) := TrIn.keep (w := w1) hB2.size (fun x _ hx => hB2.block x hx) (fun x h _ => h) HT.out
    have HB2 : Hid (Below w.heap.size w w2) := HB1.out.trans (hB2.mono HB1.out.size)
    clear hO hB2
    by_cases h0 : n = 0
    · have HA := hideT' (clR_ok HR.out (HNN.out.1 h0))
      subst h0
      go_wp2
      go_ret2
      exact ⟨.inr ⟨t, b, rfl, HA.out, HT2.out⟩, HB2.out⟩
    · have HA := hideT' (clR_no HR.out (fun e => h0 (HNN.out.2 e)))
      have hni : ¬ (n : Int) = 0 := by omega
      have hnb : ((n : Int) == 0) = false := by simpa using hni
      go_wp2
      go_ret2
      exact ⟨.inl ⟨_, rfl, HA.out⟩, HB2.out⟩
end Go.Proofs.Ytbnagagdboeedaa

/-
  Steps by value and by name, what is around a part, and Plotkin's translation (plain).
-/
namespace Go.Proofs.Ytbnagagdboeedaa
set_option linter.unusedVariables false

/-- One step, by value or by name. -/
def Lm.stp (v : Bool) : Lm → Option Lm
  | .var _ => none
  | .lam _ => none
  | .app f x => match f.stp v with
    | some f' => some (.app f' x)
    | none => match (if v then x.stp v else none) with
      | some x' => some (.app f x')
      | none => some (Lm.app f x).beta
theorem arg_stp {v : Bool} {x x' : Lm} (h : (if v then x.stp v else none) = some x') : x.stp v = some x' := by
  cases v with
  | false => cases h
  | true => exact h
theorem Lm.stp_none {v : Bool} : ∀ {t : Lm}, t.cl 0 = true → t.stp v = none → t.isLam = true
  | .var n, h, _ => by simp [Lm.cl] at h; omega
  | .lam t, _, _ => rfl
  | .app f x, _, h => by
    rw [Lm.stp] at h
    split at h
    · cases h
    · split at h <;> cases h
theorem Lm.stp_lam {v : Bool} {t : Lm} (h : t.isLam = true) : t.stp v = none := by
  cases t with
  | lam t => rfl
  | var n => cases h
  | app a b => cases h
theorem Lm.beta_cl {b a : Lm} (hb : b.cl 1 = true) (ha : a.cl 0 = true) : (Lm.app (.lam b) a).beta.cl 0 = true := by
  rw [Lm.beta]; exact Lm.cl_sub ha hb
theorem Lm.stp_cl {v : Bool} : ∀ {t s : Lm}, t.cl 0 = true → t.stp v = some s → s.cl 0 = true
  | .var n, s, h, e => by rw [Lm.stp] at e; cases e
  | .lam t, s, h, e => by rw [Lm.stp] at e; cases e
  | .app f x, s, h, e => by
    simp only [Lm.cl, Bool.and_eq_true] at h
    rw [Lm.stp] at e
    split at e
    · next f' hf =>
      injection e with e
      subst e
      simp only [Lm.cl, Bool.and_eq_true]
      exact ⟨Lm.stp_cl h.1 hf, h.2⟩
    · next hf =>
      have hl := Lm.stp_none h.1 hf
      cases f with
      | var n => cases hl
      | app a b => cases hl
      | lam b =>
        split at e
        · next x' hx =>
          injection e with e
          subst e
          simp only [Lm.cl, Bool.and_eq_true]
          exact ⟨h.1, Lm.stp_cl h.2 (arg_stp hx)⟩
        · injection e with e
          subst e
          exact Lm.beta_cl h.1 h.2
theorem Lm.stp_sz {v : Bool} : ∀ {t s : Lm}, t.stp v = some s → s.sz ≤ t.sz * t.sz
  | .var n, s, e => by rw [Lm.stp] at e; cases e
  | .lam t, s, e => by rw [Lm.stp] at e; cases e
  | .app f x, s, e => by
    have hq : (f.sz + x.sz + 1) * (f.sz + x.sz + 1) = f.sz * f.sz + x.sz * x.sz + 2 * (f.sz * x.sz) + 2 * f.sz + 2 * x.sz + 1 := by grind
    rw [Lm.stp] at e
    split at e
    · next f' hf =>
      injection e with e
      subst e
      have := Lm.stp_sz hf
      simp only [Lm.sz]
      rw [hq]; omega
    · split at e
      · next x' hx =>
        injection e with e
        subst e
        have := Lm.stp_sz (arg_stp hx)
        simp only [Lm.sz]
        rw [hq]; omega
      · injection e with e
        subst e
        simp only [Lm.sz]
        rw [hq]
        unfold Lm.beta
        split
        · next b a heq =>
          injection heq with h1 h2
          subst h1 h2
          have := (Lm.sub_sz 0 x b 0).1
          simp only [Lm.sz]
          have h3 : b.sz * x.sz ≤ (b.sz + 1) * x.sz := Nat.mul_le_mul (by omega) (Nat.le_refl _)
          omega
        · simp only [Lm.sz]; omega
/-- Steps till a lambda, k more at most, n done: what it comes to and how many they were. -/
def runT (v : Bool) : Nat → Nat → Lm → Option (Lm × Nat)
  | 0, n, t => match t.stp v with
    | none => some (t, n)
    | some _ => none
  | k + 1, n, t => match t.stp v with
    | none => some (t, n)
    | some t' => if t'.good then runT v k (n + 1) t' else none
theorem runT_end {v : Bool} {k n : Nat} {t : Lm} (h : t.stp v = none) : runT v k n t = some (t, n) := by cases k <;> simp [runT, h]
theorem runT_zero {v : Bool} {n : Nat} {t s : Lm} (h : t.stp v = some s) : runT v 0 n t = none := by simp [runT, h]
theorem runT_bad {v : Bool} {k n : Nat} {t s : Lm} (h : t.stp v = some s) (hg : s.good = false) : runT v k n t = none := by cases k <;> simp [runT, h, hg]
theorem runT_step {v : Bool} {k n : Nat} {t s : Lm} (h : t.stp v = some s) (hg : s.good = true) : runT v (k + 1) n t = runT v k (n + 1) s := by simp [runT, h, hg]
theorem runT_good {v : Bool} : ∀ {k n : Nat} {t s : Lm} {m : Nat}, t.good = true → t.cl 0 = true → runT v k n t = some (s, m) → s.good = true ∧ s.isLam = true ∧ s.cl 0 = true ∧ n ≤ m ∧ m ≤ n + k
  | 0, n, t, s, m, hg, hc, h => by
    cases hs : t.stp v with
    | none =>
      rw [runT_end hs] at h
      injection h with h
      injection h with h1 h2
      subst h1 h2
      exact ⟨hg, Lm.stp_none hc hs, hc, Nat.le_refl _, Nat.le_refl _⟩
    | some t' => rw [runT_zero hs] at h; cases h
  | k + 1, n, t, s, m, hg, hc, h => by
    cases hs : t.stp v with
    | none =>
      rw [runT_end hs] at h
      injection h with h
      injection h with h1 h2
      subst h1 h2
      exact ⟨hg, Lm.stp_none hc hs, hc, Nat.le_refl _, by omega⟩
    | some t' =>
      cases hg' : t'.good with
      | false => rw [runT_bad hs hg'] at h; cases h
      | true =>
        rw [runT_step hs hg'] at h
        have := runT_good hg' (Lm.stp_cl hc hs) h
        exact ⟨this.1, this.2.1, this.2.2.1, by omega, by omega⟩

/-! What is around a part: the second part of an application whose first part it is, or the first part of one whose second part it is. -/
inductive Fr where
  | fst (x : Lm)
  | snd (f : Lm)
def Fr.plug : Fr → Lm → Lm
  | .fst x, t => .app t x
  | .snd f, t => .app f t
/-- The whole term, the innermost one first. -/
def wholeS : List Fr → Lm → Lm
  | [], t => t
  | fr :: s, t => wholeS s (fr.plug t)
def Fr.fits (v : Bool) : Fr → Bool
  | .fst _ => true
  | .snd f => v && f.isLam
def stkOk (v : Bool) (s : List Fr) : Bool := s.all (Fr.fits v)
theorem stp_whole {v : Bool} : ∀ {s : List Fr} {t t' : Lm}, stkOk v s = true → t.stp v = some t' → (wholeS s t).stp v = some (wholeS s t')
  | [], t, t', _, h => h
  | fr :: s, t, t', hs, h => by
    have hs := Bool.and_eq_true_iff.1 (show (fr.fits v && stkOk v s) = true from hs)
    refine stp_whole (s := s) hs.2 ?_
    cases fr with
    | fst x => simp [Fr.plug, Lm.stp, h]
    | snd f =>
      have h1 := Bool.and_eq_true_iff.1 (show (v && f.isLam) = true from hs.1)
      have h2 := h1.1
      subst h2
      simp [Fr.plug, Lm.stp, h, Lm.stp_lam (v := true) h1.2]
theorem stp_red {v : Bool} {b a : Lm} (h : v = true → a.isLam = true) : (Lm.app (.lam b) a).stp v = some (Lm.app (.lam b) a).beta := by
  cases v with
  | false => simp [Lm.stp]
  | true => simp [Lm.stp, Lm.stp_lam (v := true) (h rfl)]
theorem whole_cl : ∀ {s : List Fr} {t : Lm}, (wholeS s t).cl 0 = true → t.cl 0 = true
  | [], t, h => h
  | .fst x :: s, t, h => by
    have := whole_cl (s := s) h
    simp only [Fr.plug, Lm.cl, Bool.and_eq_true] at this
    exact this.1
  | .snd f :: s, t, h => by
    have := whole_cl (s := s) h
    simp only [Fr.plug, Lm.cl, Bool.and_eq_true] at this
    exact this.2
theorem whole_sz : ∀ (s : List Fr) (t : Lm), t.sz + 2 * s.length ≤ (wholeS s t).sz
  | [], t => Nat.le_refl _
  | .fst x :: s, t => by
    have := whole_sz s (Fr.plug (.fst x) t)
    have := x.sz_pos
    simp only [Fr.plug, Lm.sz, wholeS, List.length_cons] at *; omega
  | .snd f :: s, t => by
    have := whole_sz s (Fr.plug (.snd f) t)
    have := f.sz_pos
    simp only [Fr.plug, Lm.sz, wholeS, List.length_cons] at *; omega
theorem whole_plug : ∀ (s : List Fr) (t : Lm), ∃ K, ∀ u : Lm, (wholeS s u).sz = u.sz + K
  | [], t => ⟨0, fun u => rfl⟩
  | .fst x :: s, t => by
    obtain ⟨K, h⟩ := whole_plug s t
    exact ⟨x.sz + 1 + K, fun u => by rw [wholeS, h]; simp only [Fr.plug, Lm.sz]; omega⟩
  | .snd f :: s, t => by
    obtain ⟨K, h⟩ := whole_plug s t
    exact ⟨f.sz + 1 + K, fun u => by rw [wholeS, h]; simp only [Fr.plug, Lm.sz]; omega⟩
/-- How much is left to be looked at, till the next redex. -/
def Fr.mu : Fr → Nat
  | .fst x => 2 * x.sz + 1
  | .snd _ => 0
def muS (s : List Fr) : Nat := s.foldr (fun fr a => fr.mu + a) 0

/-! Plotkin's translation. -/
def lastT : Lm := .lam (.app (.app (.var 1) (.var 0)) (.var 2))
def Lm.pass : Lm → Lm
  | .var n => .lam (.app (.var 0) (.var (n + 1)))
  | .lam t => .lam (.app (.var 0) ((Lm.lam t.pass).shift 1 0))
  | .app s t => .lam (.app (s.pass.shift 1 0) (.lam (.app (t.pass.shift 2 0) lastT)))
theorem Lm.pass_sz : ∀ t : Lm, t.pass.sz ≤ 12 * t.sz
  | .var n => by simp [Lm.pass, Lm.sz]
  | .lam t => by
    have := Lm.pass_sz t
    simp only [Lm.pass, Lm.sz, (Lm.shift_sz 1 (Lm.lam t.pass) 0).1]; omega
  | .app s t => by
    have := Lm.pass_sz s
    have := Lm.pass_sz t
    simp only [Lm.pass, lastT, Lm.sz, (Lm.shift_sz 1 s.pass 0).1, (Lm.shift_sz 2 t.pass 0).1]; omega
/-- Variables between -1000 and a bound. -/
def Lm.lim (t : Lm) (B : Nat) : Prop := match t with
  | .var n => -1000 ≤ n ∧ n ≤ B
  | .lam t => t.lim B
  | .app s t => s.lim B ∧ t.lim B
theorem Lm.lim_up : ∀ {t : Lm} {B C : Nat}, t.lim B → B ≤ C → t.lim C
  | .var n, B, C, h, hb => ⟨h.1, by have := h.2; omega⟩
  | .lam t, B, C, h, hb => Lm.lim_up (t := t) h hb
  | .app s t, B, C, h, hb => ⟨Lm.lim_up h.1 hb, Lm.lim_up h.2 hb⟩
theorem Lm.lim_shift (d : Nat) : ∀ {t : Lm} {B : Nat} {f : Int}, t.lim B → (t.shift d f).lim (B + d)
  | .var n, B, f, h => by
    have h1 := h.1
    have h2 := h.2
    rw [Lm.shift]
    split
    · exact ⟨h1, by omega⟩
    · exact ⟨by omega, by omega⟩
  | .lam t, B, f, h => Lm.lim_shift d (t := t) h
  | .app s t, B, f, h => ⟨Lm.lim_shift d h.1, Lm.lim_shift d h.2⟩
theorem Lm.lim_pass : ∀ {t : Lm}, t.lim 100 → t.pass.lim (100 + 2 * t.sz)
  | .var n, h => by
    have h1 := h.1
    have h2 := h.2
    exact ⟨⟨by omega, by omega⟩, ⟨by omega, by simp [Lm.sz]; omega⟩⟩
  | .lam t, h => by
    have h1 := Lm.lim_shift 1 (t := Lm.lam t.pass) (B := 100 + 2 * t.sz) (f := 0) (Lm.lim_pass (t := t) h)
    exact ⟨⟨by omega, by omega⟩, Lm.lim_up h1 (by simp only [Lm.sz]; omega)⟩
  | .app s t, h => by
    have h1 := Lm.lim_shift 1 (f := 0) (Lm.lim_pass (t := s) h.1)
    have h2 := Lm.lim_shift 2 (f := 0) (Lm.lim_pass (t := t) h.2)
    refine ⟨Lm.lim_up h1 (by simp only [Lm.sz]; omega), Lm.lim_up h2 (by simp only [Lm.sz]; omega), ⟨⟨by omega, by omega⟩, ⟨by omega, by omega⟩⟩, ⟨by omega, by omega⟩⟩
theorem Lm.ok_lim : ∀ {t : Lm}, t.ok = true → t.lim 100
  | .var n, h => by simp [Lm.ok] at h; exact ⟨by omega, by omega⟩
  | .lam t, h => Lm.ok_lim (t := t) h
  | .app s t, h => by simp only [Lm.ok, Bool.and_eq_true] at h; exact ⟨Lm.ok_lim h.1, Lm.ok_lim h.2⟩
/-- What the value of a lambda is, passed. -/
def Lm.passV : Lm → Lm
  | .lam t => .lam t.pass
  | t => t
end Go.Proofs.Ytbnagagdboeedaa

/-
  What the model says of terms without free variables; IsValue and ApplyTerm of both sides.
-/
namespace Go.Proofs.Ytbnagagdboeedaa
open Go.RowKit BL
set_option linter.unusedVariables false

def clB (l : List Nd) : Bool := (clR l).isSome
set_option maxHeartbeats 4000000 in
theorem leClosed_any (l : List Nd) (v : Value) (w : World) (hv : NdIn w v l) (hl : l.length ≤ 1048576) :
    Calls Try.prog 122 #[v] w fun e w' => e = .returned (.bool (clB l)) ∧ Below w.heap.size w w' := by
  have HC := hideT' (specFreeIn_any l v w hv hl)
  have HN : Hid (clB l = (FrIB l && decide ((FrIL l).length = 0))) := by
    unfold Hid clB
    cases hr : readP' l with
    | none => rw [clR_none hr]; unfold FrIB; rw [hr]; rfl
    | some t =>
      have f1 := readP'_facts hr
      have h1 := FrL_nil f1.2.2.2.1
      have e1 : FrIB l = true := by unfold FrIB; rw [hr]
      have e2 : FrIL l = FrL t := by unfold FrIL; rw [hr]
      rw [e1, e2, Bool.true_and]
      by_cases h0 : t.free 0 = []
      · rw [clR_ok hr h0, h1.2 h0]; rfl
      · rw [clR_no hr h0]
        have : ¬ (FrL t).length = 0 := fun e => h0 (h1.1 (List.length_eq_zero_iff.1 e))
        rw [decide_eq_false this]; rfl
  rw [HN.out]
  obtain ⟨n, hn⟩ : ∃ n, n = (FrIL l).length := ⟨_, rfl⟩
  obtain ⟨q, hq⟩ : ∃ q, q = FrIB l := ⟨_, rfl⟩
  rw [← hn, ← hq]
  rw [← hq] at HC
  have HNL := hideT' hn
  clear hv hn hq
  go_enter Try.func122, Try.ntmps122
  go_wp2_with fail
  refine HC.out.mono ?_
  rintro e w1 ⟨⟨u, rfl, hO⟩, hB1⟩
  obtain ⟨o, cap, rfl⟩ := own_formT hO
  rw [← HNL.out]
  have HB1 := hideT' hB1
  clear hO hB1
  cases q with
  | false =>
    go_wp2
    go_ret
    exact ⟨rfl, HB1.out⟩
  | true =>
    by_cases h0 : n = 0
    · subst h0
      go_wp2
      go_ret
      exact ⟨rfl, HB1.out⟩
    · have hnb : ((n : Int) == 0) = false := by have : ¬ (n : Int) = 0 := (by omega); simpa using this
      have HD : Hid (decide (n = 0) = false) := decide_eq_false h0
      have hni : ¬ (n : Int) = 0 := by omega
      go_wp2
      go_ret
      exact ⟨by rw [HD.out]; rfl, HB1.out⟩
set_option maxHeartbeats 4000000 in
theorem lfClosed_any (l : List Nd) (v : Value) (w : World) (hv : NdIn w v l) (hl : l.length ≤ 1048576) :
    Calls Try.prog 79 #[v] w fun e w' => e = .returned (.bool (clB l)) ∧ Below w.heap.size w w' := by
  have HC := hideT' (leClosed_any l v w hv hl)
  obtain ⟨q, hq⟩ : ∃ q, q = clB l := ⟨_, rfl⟩
  rw [← hq]
  rw [← hq] at HC
  clear hv hq
  go_enter Try.func79, Try.ntmps79
  go_wp2_with fail
  refine HC.out.mono ?_
  rintro e w1 ⟨rfl, hB1⟩
  have HB1 := hideT' hB1
  clear hB1
  go_wp2
  go_ret
  exact ⟨rfl, HB1.out⟩

/-- IsValue. -/
def IsV (l : List Nd) : Bool := match clR l with | none => false | some t => t.isLam
theorem clR_flat {l : List Nd} {t : Lm} (h : clR l = some t) : l = t.flat 0 (-1) := (readP'_facts (clR_some h).1).1
theorem clR_kind {l : List Nd} {t : Lm} (h : clR l = some t) : (ndAt l 0).k = t.kd ∧ 0 < l.length := by
  have h1 := clR_flat h
  have hp := t.sz_pos
  have h2 : Seg l t 0 (-1) := by rw [h1]; exact Seg.whole t
  exact ⟨by rw [h2.nd], by rw [h1, Lm.flat_sz]; exact hp⟩
set_option maxHeartbeats 4000000 in
theorem specIsValue_any (l : List Nd) (v : Value) (w : World) (hv : NdIn w v l) (hl : l.length ≤ 1048576) :
    Calls Try.prog 44 #[v] w fun e w' => e = .returned (.bool (IsV l)) ∧ Below w.heap.size w w' := by
  have HC := hideT' (lfClosed_any l v w hv hl)
  obtain ⟨o, cap, rfl⟩ := hv.len
  have HV := hideT' hv
  cases hr : clR l with
  | none =>
    have HN : Hid (IsV l = false) := by unfold Hid IsV; rw [hr]
    have hcb : clB l = false := by unfold clB; rw [hr]; rfl
    rw [hcb] at HC
    rw [HN.out]
    clear hv hr hcb
    go_enter Try.func44, Try.ntmps44
    go_wp2_with fail
    refine HC.out.mono ?_
    rintro e w1 ⟨rfl, hB1⟩
    have HB1 := hideT' hB1
    clear hB1
    go_wp2
    go_ret
    exact ⟨rfl, HB1.out⟩
  | some t =>
    have HN : Hid (IsV l = (t.kd == 2)) := by unfold Hid IsV; rw [hr]; cases t <;> simp [Lm.isLam, Lm.kd]
    have hcb : clB l = true := by unfold clB; rw [hr]; rfl
    rw [hcb] at HC
    rw [HN.out]
    obtain ⟨hk, hlen⟩ := clR_kind hr
    obtain ⟨kd, hkd⟩ : ∃ kd, kd = t.kd := ⟨_, rfl⟩
    rw [← hkd] at hk ⊢
    have HK := hideT' hk
    obtain ⟨n, hn⟩ : ∃ n, n = l.length := ⟨_, rfl⟩
    rw [← hn] at HC HV hlen ⊢
    have HNN := hideT' hn
    have hni : 0 < (n : Int) := by omega
    clear hv hr hcb hk hkd hn
    go_enter Try.func44, Try.ntmps44
    go_wp2_with fail
    refine HC.out.mono ?_
    rintro e w1 ⟨rfl, hB1⟩
    have HB1 := hideT' hB1
    have hv1 : NdIn w1 (.slice o n cap) l := HV.out.below hB1
    obtain ⟨g, rfl, hg, c0, c1, c2⟩ := NdIn.cells hv1 (i := 0) (by have := HNN.out; omega) (d := ndAt l 0) rfl
    rw [HK.out] at c0
    simp only [Nat.zero_mul] at c0
    clear hB1 hv1 c1 c2
    go_wp2
    go_ret
    exact ⟨rfl, HB1.out⟩
set_option maxHeartbeats 4000000 in
theorem implIsValue_any (l : List Nd) (v : Value) (w : World) (hv : NdIn w v l) (hl : l.length ≤ 1048576) :
    Calls Try.prog 45 #[v] w fun e w' => e = .returned (.bool (IsV l)) ∧ Below w.heap.size w w' := by
  have HC := hideT' (closedTerm_any l v w hv hl)
  clear hv
  go_enter Try.func45, Try.ntmps45
  go_wp2_with fail
  refine HC.out.mono ?_
  rintro e w1 ⟨hans, hB1⟩
  have HB1 := hideT' hB1
  clear hB1
  rcases hans with ⟨p, rfl, hn⟩ | ⟨t, b, rfl, hr, hT⟩
  · have HN : Hid (IsV l = false) := by unfold Hid IsV; rw [hn]
    clear hn
    go_wp2
    go_ret
    exact ⟨by rw [HN.out]; rfl, HB1.out⟩
  · have HN : Hid (IsV l = (t.kd == 2)) := by unfold Hid IsV; rw [hr]; cases t <;> simp [Lm.isLam, Lm.kd]
    have hk := hT.kind
    have hbl := hT.lt
    obtain ⟨kd, hkd⟩ : ∃ kd, kd = t.kd := ⟨_, rfl⟩
    rw [← hkd] at hk HN
    clear hr hT hkd
    go_wp2
    go_ret
    exact ⟨by rw [HN.out]; rfl, HB1.out⟩
end Go.Proofs.Ytbnagagdboeedaa

/-
  New applications and lambdas of the program; ApplyTerm of both sides.
-/
namespace Go.Proofs.Ytbnagagdboeedaa
open Go.RowKit BL
set_option linter.unusedVariables false

set_option maxHeartbeats 1000000 in
theorem application_any (s t : Lm) (b1 b2 : Nat) (P : Nat → Prop) (w : World) (h1 : TrIn w P s b1) (h2 : TrIn w P t b2) (hs : s.sz ≤ 1000000) (ht : t.sz ≤ 1000000) :
    Calls Try.prog 85 #[.pointer (some ⟨b1, 0, none⟩), .pointer (some ⟨b2, 0, none⟩)] w fun e w' => (∃ b, e = .returned (.pointer (some ⟨b, 0, none⟩)) ∧ TrIn w' (fun x => P x ∨ w.heap.size ≤ x) (.app s t) b) ∧ Below w.heap.size w w' := by
  have hz := zero_term.1
  obtain ⟨W, hWd⟩ : ∃ W, W = w.alloc (.cells #[.pointer (some ⟨b1, 0, none⟩), .pointer (some ⟨b2, 0, none⟩)] 60) := ⟨_, rfl⟩
  have hB : Below w.heap.size w W := by rw [hWd]; exact (Below.refl _ _).alloc (Nat.le_refl _) _
  have hR : RowAt W w.heap.size 60 #[.pointer (some ⟨b1, 0, none⟩), .pointer (some ⟨b2, 0, none⟩)] := by rw [hWd]; exact RowAt.new _ _ _
  have hK : KidsAt W (fun x => P x ∨ w.heap.size ≤ x) (.slice (some ⟨w.heap.size, 0, none⟩) 2 2) [(b1, s), (b2, t)] := by
    refine ⟨_, 2, rfl, fun _ => ⟨w.heap.size, rfl, ⟨hR.lt, .inr (Nat.le_refl _)⟩, fun i p hi => ?_⟩, fun p hp => ?_⟩
    · match i, hi with
      | 0, hi => cases hi; rw [cell_of_row _ _ _ _ _ _ hR]; rfl
      | 1, hi => cases hi; rw [cell_of_row _ _ _ _ _ _ hR]; rfl
      | i + 2, hi => simp at hi
    · simp only [List.mem_cons, List.not_mem_nil, or_false] at hp
      rcases hp with rfl | rfl
      · exact TrIn.keep (w := w) hB.size (fun x _ hx => hB.block x hx) (fun x h _ => .inl h) h1
      · exact TrIn.keep (w := w) hB.size (fun x _ hx => hB.block x hx) (fun x h _ => .inl h) h2
  have HK := hideT' hK
  have HB := hideT' hB
  have HPS : Hid (∀ p ∈ ptsOf [(b1, s), (b2, t)], p.2.1 ≤ 1000000 ∧ p.2.2 ≤ 1000000) := by
    intro p hp
    have := s.dp_sz
    have := t.dp_sz
    simp only [ptsOf, List.map_cons, List.map_nil, List.mem_cons, List.not_mem_nil, or_false] at hp
    rcases hp with rfl | rfl <;> simp only <;> omega
  clear hK hB hR h1 h2
  go_enter Try.func85, Try.ntmps85
  go_wp2_with fail
  rw [← hWd]
  refine (treeOf_any 3 0 0 _ (ptsOf [(b1, s), (b2, t)]) W HK.out.pts (by simp [ptsOf]) HPS.out).mono ?_
  intro e w2 hN
  obtain ⟨b', rfl, hbb, hTr, hB2⟩ := treeNew_at (t := .app s t) HK.out (by simp [nodeOf]) hN
  have HF : Hid (TrIn w2 (fun x => P x ∨ w.heap.size ≤ x) (.app s t) b' ∧ Below w.heap.size w w2) := ⟨TrIn.mono (fun x hx _ => by rcases hx with hx | hx; exact hx; exact .inr (by have := HB.out.size; omega)) hTr, HB.out.trans (hB2.mono HB.out.size)⟩
  clear hN hTr hB2 hWd
  go_wp2
  go_ret
  exact ⟨⟨b', rfl, HF.out.1⟩, HF.out.2⟩
set_option maxHeartbeats 1000000 in
theorem lambdaTerm_any (s : Lm) (b1 : Nat) (P : Nat → Prop) (w : World) (h1 : TrIn w P s b1) (hs : s.sz ≤ 1000000) :
    Calls Try.prog 89 #[.pointer (some ⟨b1, 0, none⟩)] w fun e w' => (∃ b, e = .returned (.pointer (some ⟨b, 0, none⟩)) ∧ TrIn w' (fun x => P x ∨ w.heap.size ≤ x) (.lam s) b) ∧ Below w.heap.size w w' := by
  have hz := zero_term.1
  obtain ⟨W, hWd⟩ : ∃ W, W = w.alloc (.cells #[.pointer (some ⟨b1, 0, none⟩)] 60) := ⟨_, rfl⟩
  have hB : Below w.heap.size w W := by rw [hWd]; exact (Below.refl _ _).alloc (Nat.le_refl _) _
  have hR : RowAt W w.heap.size 60 #[.pointer (some ⟨b1, 0, none⟩)] := by rw [hWd]; exact RowAt.new _ _ _
  have hK : KidsAt W (fun x => P x ∨ w.heap.size ≤ x) (.slice (some ⟨w.heap.size, 0, none⟩) 1 1) [(b1, s)] := by
    refine ⟨_, 1, rfl, fun _ => ⟨w.heap.size, rfl, ⟨hR.lt, .inr (Nat.le_refl _)⟩, fun i p hi => ?_⟩, fun p hp => ?_⟩
    · match i, hi with
      | 0, hi => cases hi; rw [cell_of_row _ _ _ _ _ _ hR]; rfl
      | i + 1, hi => simp at hi
    · simp only [List.mem_cons, List.not_mem_nil, or_false] at hp
      subst hp
      exact TrIn.keep (w := w) hB.size (fun x _ hx => hB.block x hx) (fun x h _ => .inl h) h1
  have HK := hideT' hK
  have HB := hideT' hB
  have HPS : Hid (∀ p ∈ ptsOf [(b1, s)], p.2.1 ≤ 1000000 ∧ p.2.2 ≤ 1000000) := by
    intro p hp
    have := s.dp_sz
    simp only [ptsOf, List.map_cons, List.map_nil, List.mem_cons, List.not_mem_nil, or_false] at hp
    subst hp
    simp only
    omega
  clear hK hB hR h1
  go_enter Try.func89, Try.ntmps89
  go_wp2_with fail
  rw [← hWd]
  refine (treeOf_any 2 0 0 _ (ptsOf [(b1, s)]) W HK.out.pts (by simp [ptsOf]) HPS.out).mono ?_
  intro e w2 hN
  obtain ⟨b', rfl, hbb, hTr, hB2⟩ := treeNew_at (t := .lam s) HK.out (by simp [nodeOf]) hN
  have HF : Hid (TrIn w2 (fun x => P x ∨ w.heap.size ≤ x) (.lam s) b' ∧ Below w.heap.size w w2) := ⟨TrIn.mono (fun x hx _ => by rcases hx with hx | hx; exact hx; exact .inr (by have := HB.out.size; omega)) hTr, HB.out.trans (hB2.mono HB.out.size)⟩
  clear hN hTr hB2 hWd
  go_wp2
  go_ret
  exact ⟨⟨b', rfl, HF.out.1⟩, HF.out.2⟩

/-- What both ApplyTerm tell. -/
def ApT (a b : List Nd) : Option Lm := match clR a, clR b with
  | some s, some t => some (.app s t)
  | _, _ => none
theorem ApT_l {a b : List Nd} (h : clR a = none) : ApT a b = none := by unfold ApT; rw [h]
theorem ApT_r {a b : List Nd} (h : clR b = none) : ApT a b = none := by unfold ApT; rw [h]; cases clR a <;> rfl
theorem ApT_ok {a b : List Nd} {s t : Lm} (h1 : clR a = some s) (h2 : clR b = some t) : ApT a b = some (.app s t) := by unfold ApT; rw [h1, h2]
theorem clB_some {l : List Nd} {t : Lm} (h : clR l = some t) : clB l = true := by unfold clB; rw [h]; rfl
theorem clB_none {l : List Nd} (h : clR l = none) : clB l = false := by unfold clB; rw [h]; rfl
set_option maxHeartbeats 4000000 in
theorem implApplyTerm_any (l1 l2 : List Nd) (v1 v2 : Value) (w : World) (hv1 : NdIn w v1 l1) (hv2 : NdIn w v2 l2) (hl1 : l1.length ≤ 1048576) (hl2 : l2.length ≤ 1048576) :
    Calls Try.prog 47 #[v1, v2] w fun e w' => TOut w (ApT l1 l2) e w' ∧ Below w.heap.size w w' := by
  have HV2 := hideT' hv2
  have HC := hideT' (closedTerm_any l1 v1 w hv1 hl1)
  clear hv1 hv2
  go_enter Try.func47, Try.ntmps47
  go_wp2_with fail
  refine HC.out.mono ?_
  rintro e w1 ⟨hans, hB1⟩
  have HC2 := hideT' (closedTerm_any l2 v2 w1 (HV2.out.below hB1) hl2)
  have HB1 := hideT' hB1
  clear hB1
  rcases hans with ⟨p, rfl, hn⟩ | ⟨t, b, rfl, hr, hT⟩
  · have HN := hideT' (ApT_l (b := l2) hn)
    clear hn
    go_wp2_with fail
    refine HC2.out.mono ?_
    rintro e w2 ⟨hans2, hB2⟩
    have HB2 : Hid (Below w.heap.size w w2) := HB1.out.trans (hB2.mono HB1.out.size)
    rcases hans2 with ⟨p2, rfl, hn2⟩ | ⟨t2, b2, rfl, hr2, hT2⟩
    · clear hn2 hB2
      go_wp2
      go_ret2
      exact ⟨TOut.bad HN.out, HB2.out⟩
    · clear hr2 hT2 hB2
      go_wp2
      go_ret2
      exact ⟨TOut.bad HN.out, HB2.out⟩
  · have HT := hideT' hT
    have HR := hideT' hr
    clear hT hr
    go_wp2_with fail
    refine HC2.out.mono ?_
    rintro e w2 ⟨hans2, hB2⟩
    have HB2 : Hid (Below w.heap.size w w2) := HB1.out.trans (hB2.mono HB1.out.size)
    rcases hans2 with ⟨p2, rfl, hn2⟩ | ⟨t2, b2, rfl, hr2, hT2⟩
    · have HN := hideT' (ApT_r (a := l1) hn2)
      clear hn2 hB2
      go_wp2
      go_ret2
      exact ⟨TOut.bad HN.out, HB2.out⟩
    · have hT1 : TrIn w2 (fun _ => True) t b := TrIn.keep (w := w1) hB2.size (fun x _ hx => hB2.block x hx) (fun _ _ _ => trivial) HT.out
      have hT22 : TrIn w2 (fun _ => True) t2 b2 := TrIn.mono (fun _ _ _ => trivial) hT2
      have f1 := readP'_facts (clR_some HR.out).1
      have f2 := readP'_facts (clR_some hr2).1
      have HN := hideT' (ApT_ok HR.out hr2)
      have HC3 := hideT' (application_any t t2 b b2 _ w2 hT1 hT22 (by omega) (by omega))
      have HSZ : Hid ((Lm.app t t2).sz ≤ 1000000) := by unfold Hid; simp only [Lm.sz]; omega
      clear hr2 hT2 hB2 hT1 hT22 f1 f2
      go_wp2_with fail
      refine HC3.out.mono ?_
      rintro e w3 ⟨⟨b3, rfl, hT3⟩, hB3⟩
      have HB3 : Hid (Below w.heap.size w w3) := HB2.out.trans (hB3.mono HB2.out.size)
      have HC4 := hideT' (tellTree_any _ b3 _ w3 hT3 HSZ.out)
      clear hT3 hB3
      go_wp2_with fail
      refine HC4.out.mono ?_
      rintro e w4 ⟨hT4, hB4⟩
      obtain ⟨u4, rfl, hO4⟩ := hT4
      have HF : Hid (TOut w (ApT l1 l2) (.returned (.tuple #[u4, .bool (Lm.app t t2).good])) w4 ∧ Below w.heap.size w w4) := ⟨ToldT.out (t := Lm.app t t2) ⟨u4, rfl, hO4⟩ HB3.out.size HN.out, HB3.out.trans (hB4.mono HB3.out.size)⟩
      obtain ⟨q, hq⟩ : ∃ q, q = (Lm.app t t2).good := ⟨_, rfl⟩
      rw [← hq] at HF ⊢
      clear hq hO4 hB4
      go_wp2
      go_ret2
      exact HF.out
set_option maxHeartbeats 4000000 in
theorem specApplyTerm_any (l1 l2 : List Nd) (v1 v2 : Value) (w : World) (hv1 : NdIn w v1 l1) (hv2 : NdIn w v2 l2) (hl1 : l1.length ≤ 1048576) (hl2 : l2.length ≤ 1048576) :
    Calls Try.prog 46 #[v1, v2] w fun e w' => TOut w (ApT l1 l2) e w' ∧ Below w.heap.size w w' := by
  have HV1 := hideT' hv1
  have HV2 := hideT' hv2
  have HC := hideT' (lfClosed_any l1 v1 w hv1 hl1)
  clear hv1 hv2
  cases hr1 : clR l1 with
  | none =>
    rw [clB_none hr1] at HC
    have HN := hideT' (ApT_l (b := l2) hr1)
    clear hr1
    go_enter Try.func46, Try.ntmps46
    go_wp2_with fail
    refine HC.out.mono ?_
    rintro e w1 ⟨rfl, hB1⟩
    have HB1 := hideT' hB1
    clear hB1
    go_wp2
    go_ret2
    exact ⟨TOut.bad HN.out, HB1.out⟩
  | some t1 =>
    rw [clB_some hr1] at HC
    have HR1 := hideT' hr1
    cases hr2 : clR l2 with
    | none =>
      have HN := hideT' (ApT_r (a := l1) hr2)
      have HB0 := hideT' (clB_none hr2)
      clear hr1 hr2
      go_enter Try.func46, Try.ntmps46
      go_wp2_with fail
      refine HC.out.mono ?_
      rintro e w1 ⟨rfl, hB1⟩
      have HC2 := hideT' (lfClosed_any l2 v2 w1 (HV2.out.below hB1) hl2)
      rw [HB0.out] at HC2
      have HB1 := hideT' hB1
      clear hB1
      go_wp2_with fail
      refine HC2.out.mono ?_
      rintro e w2 ⟨rfl, hB2⟩
      have HB2 : Hid (Below w.heap.size w w2) := HB1.out.trans (hB2.mono HB1.out.size)
      clear hB2
      go_wp2
      go_ret2
      exact ⟨TOut.bad HN.out, HB2.out⟩
    | some t2 =>
      have HN := hideT' (ApT_ok hr1 hr2)
      have HB0 := hideT' (clB_some hr2)
      have HR2 := hideT' hr2
      clear hr1 hr2
      go_enter Try.func46, Try.ntmps46
      go_wp2_with fail
      refine HC.out.mono ?_
      rintro e w1 ⟨rfl, hB1⟩
      have HC2 := hideT' (lfClosed_any l2 v2 w1 (HV2.out.below hB1) hl2)
      rw [HB0.out] at HC2
      have HB1 := hideT' hB1
      clear hB1
      go_wp2_with fail
      refine HC2.out.mono ?_
      rintro e w2 ⟨rfl, hB2⟩
      have hB2' : Below w.heap.size w w2 := HB1.out.trans (hB2.mono HB1.out.size)
      have HB2 := hideT' hB2'
      have HC3 := hideT' (lcTree_whole l1 t1 v1 w2 (HV1.out.below hB2') (clR_some HR1.out).1)
      clear hB2 hB2'
      go_wp2_with fail
      refine HC3.out.mono ?_
      rintro e w3 ⟨⟨z1, rfl, hz1⟩, hB3⟩
      have hB3' : Below w.heap.size w w3 := HB2.out.trans (hB3.mono HB2.out.size)
      have HB3 := hideT' hB3'
      have HZ1 := hideT' hz1
      have HC4 := hideT' (lcTree_whole l2 t2 v2 w3 (HV2.out.below hB3') (clR_some HR2.out).1)
      have HWS : Hid (w2.heap.size ≤ w3.heap.size) := hB3.size
      obtain ⟨k1, hk1⟩ : ∃ k, k = lcC t1.kd t1.nm z1 := ⟨_, rfl⟩
      rw [← hk1]
      have HK1 := hideT' hk1
      clear hB3 hB3' hz1 hk1
      go_wp2_with fail
      refine HC4.out.mono ?_
      rintro e w4 ⟨⟨z2, rfl, hz2⟩, hB4⟩
      have hz11 : LcIn w4 (fun x => w2.heap.size ≤ x) t1 z1 := LcIn.below hB4 HZ1.out
      have hz22 : LcIn w4 (fun x => w2.heap.size ≤ x) t2 z2 := LcIn.mono (fun x hx _ => Nat.le_trans HWS.out hx) hz2
      have HC5 := hideT' (lcApp_any t1 t2 z1 z2 _ w4 hz11 hz22)
      rw [← HK1.out] at HC5
      have HB4 : Hid (Below w.heap.size w w4) := HB3.out.trans (hB4.mono HB3.out.size)
      obtain ⟨k2, hk2⟩ : ∃ k, k = lcC t2.kd t2.nm z2 := ⟨_, rfl⟩
      rw [← hk2] at HC5 ⊢
      clear hB4 hz2 hz11 hz22 hk2
      go_wp2_with fail
      refine HC5.out.mono ?_
      rintro e w5 ⟨⟨z5, rfl, hz5⟩, hB5⟩
      have HC6 := hideT' (lcTold_any (.app t1 t2) z5 _ w5 hz5)
      have HB5 : Hid (Below w.heap.size w w5) := HB4.out.trans (hB5.mono HB4.out.size)
      clear hB5 hz5
      simp only [Lm.kd, Lm.nm] at HC6
      go_wp2_with fail
      refine HC6.out.mono ?_
      rintro e w6 ⟨hT6, hB6⟩
      obtain ⟨u6, rfl, hO6⟩ := hT6
      have HF : Hid (TOut w (ApT l1 l2) (.returned (.tuple #[u6, .bool (Lm.app t1 t2).good])) w6 ∧ Below w.heap.size w w6) := ⟨ToldT.out (t := Lm.app t1 t2) ⟨u6, rfl, hO6⟩ HB5.out.size HN.out, HB5.out.trans (hB6.mono HB5.out.size)⟩
      obtain ⟨q, hq⟩ : ∃ q, q = (Lm.app t1 t2).good := ⟨_, rfl⟩
      rw [← hq] at HF ⊢
      clear hq hO6 hB6
      go_wp2
      go_ret2
      exact HF.out
end Go.Proofs.Ytbnagagdboeedaa

/-
  What variable, shifted and substituted of the program make.
-/
namespace Go.Proofs.Ytbnagagdboeedaa
open Go.RowKit
set_option linter.unusedVariables false

set_option maxHeartbeats 1000000 in
theorem variable_any (n : Int) (w : World) :
    Calls Try.prog 90 #[.int .i64 n] w fun e w' => (∃ b, e = .returned (.pointer (some ⟨b, 0, none⟩)) ∧ TrIn w' (fun x => w.heap.size ≤ x) (.var n) b) ∧ Below w.heap.size w w' := by
  have hz := zero_term.1
  have hK : KidsAt w (fun _ => False) (.slice none 0 0) [] := ⟨none, 0, rfl, fun h => absurd rfl h, fun p hp => by simp at hp⟩
  have HK := hideT' hK
  clear hK
  go_enter Try.func90, Try.ntmps90
  go_wp2_with fail
  refine (treeOf_any 1 n 0 _ [] w HK.out.pts (by simp) (by simp)).mono ?_
  intro e w2 hN
  obtain ⟨b', rfl, hbb, hTr, hB2⟩ := treeNew_at (t := .var n) HK.out (by simp [nodeOf]) hN
  have HF : Hid (TrIn w2 (fun x => w.heap.size ≤ x) (.var n) b' ∧ Below w.heap.size w w2) := ⟨TrIn.mono (fun x hx _ => by rcases hx with hx | hx; exact hx.elim; exact hx) hTr, hB2⟩
  clear hN hTr hB2
  go_wp2
  go_ret
  exact ⟨⟨b', rfl, HF.out.1⟩, HF.out.2⟩
/-- Variables from a number on moved. -/
def shiftV (d f0 : Int) (n : Int) (m : Nat) : Lm := if n - m < f0 then .var n else .var (n + d)
theorem shiftV_map (d f0 : Int) : ∀ (t : Lm) (m : Nat), mapV (shiftV d f0) t m = t.shift d (f0 + m)
  | .var n, m => by
    rw [mapV, shiftV, Lm.shift]
    by_cases h : n - (m : Int) < f0
    · rw [if_pos h, if_pos (by omega)]
    · rw [if_neg h, if_neg (by omega)]
  | .lam t, m => by rw [mapV, shiftV_map d f0 t (m + 1), Lm.shift]; congr 2; omega
  | .app s t, m => by rw [mapV, shiftV_map d f0 s m, shiftV_map d f0 t m, Lm.shift]

set_option maxHeartbeats 4000000 in
set_option maxRecDepth 100000 in
theorem shiftLeaf (w0 : World) (P0 : Nat → Prop) (bf bd : Nat) (d f0 : Int) (hd : -1000000 ≤ d ∧ d ≤ 1000000) (hf : -1000000 ≤ f0 ∧ f0 ≤ 1000000) (hbf : bf < w0.heap.size) (hbd : bd < w0.heap.size) (cf : w0.cell? ⟨bf, 0, none⟩ = some (.int .i64 f0)) (cd : w0.cell? ⟨bd, 0, none⟩ = some (.int .i64 d)) :
    LeafOk w0 P0 98 #[.pointer (some ⟨bf, 0, none⟩), .pointer (some ⟨bd, 0, none⟩)] (shiftV d f0) := by
  intro n b m w hB hT _ hm hn1 hn2
  have k1 := hT.name
  simp only [Lm.nm] at k1
  have hbl := hT.lt
  have kf : w.cell? ⟨bf, 0, none⟩ = some (.int .i64 f0) := by rw [hB.cell (p := ⟨bf, 0, none⟩) hbf]; exact cf
  have kd : w.cell? ⟨bd, 0, none⟩ = some (.int .i64 d) := by rw [hB.cell (p := ⟨bd, 0, none⟩) hbd]; exact cd
  have hws := hB.size
  have hdl : bd < w.heap.size := by omega
  have hfl : bf < w.heap.size := by omega
  have HT := hideT' hT
  obtain ⟨hd1, hd2⟩ := hd
  obtain ⟨hf1, hf2⟩ := hf
  have hw1 : IntKind.i64.wrap (n - (m : Int)) = n - (m : Int) := by rw [IntKind.wrap_i64]; omega
  have hw2 : IntKind.i64.wrap (n + d) = n + d := by rw [IntKind.wrap_i64]; omega
  clear hT cf cd hB
  show Calls Try.prog 98 #[.pointer (some ⟨b, 0, none⟩), .int .i64 (m : Int), .pointer (some ⟨bf, 0, none⟩), .pointer (some ⟨bd, 0, none⟩)] w _
  by_cases h : n - (m : Int) < f0
  · have HE : Hid (shiftV d f0 n m = .var n) := by unfold Hid shiftV; rw [if_pos h]
    go_enter Try.func98, Try.ntmps98
    go_wp2_with fail
    go_quiet (fail)
    go_wp2
    go_ret
    exact ⟨⟨b, rfl, by rw [HE.out]; exact TrIn.mono (fun x hx _ => .inl hx) (TrIn.drN HT.out _)⟩, below_drN (Below.refl _ _) _⟩
  · have HE : Hid (shiftV d f0 n m = .var (n + d)) := by unfold Hid shiftV; rw [if_neg h]
    go_enter Try.func98, Try.ntmps98
    go_wp2_with fail
    go_quiet (fail)
    go_wp2_with fail
    refine held_begin (fun w' => w'.cell? ⟨b, 1, none⟩ = some (.int .i64 n) ∧ w'.cell? ⟨bd, 0, none⟩ = some (.int .i64 d)) (by kernel_rfl) ?_
    have hS : w.drew.cell? ⟨b, 1, none⟩ = some (.int .i64 n) ∧ w.drew.cell? ⟨bd, 0, none⟩ = some (.int .i64 d) := ⟨k1, kd⟩
    refine held_valS 0 (some 17) rfl rfl (by kernel_rfl) (by kernel_rfl) (by kernel_rfl) noPanic_put rfl (.pointer (some ⟨b, 0, none⟩)) (fun _ _ => by go_simp) hS ?_
    simp only [Act.put, List.setIfInBounds_toArray, List.set_cons_zero, List.set_cons_succ]
    refine held_valS 1 (some 18) rfl rfl (by kernel_rfl) (by kernel_rfl) (by kernel_rfl) noPanic_put rfl (.pointer (some ⟨b, 0, none⟩)) (fun _ _ => by go_simp) hS ?_
    simp only [Act.put, List.setIfInBounds_toArray, List.set_cons_zero, List.set_cons_succ]
    refine held_valS 2 (some 19) rfl rfl (by kernel_rfl) (by kernel_rfl) (by kernel_rfl) noPanic_put rfl (.pointer (some ⟨b, 0, none⟩)) (fun _ _ => by go_simp) hS ?_
    simp only [Act.put, List.setIfInBounds_toArray, List.set_cons_zero, List.set_cons_succ]
    refine held_valS 3 (some 20) rfl rfl (by kernel_rfl) (by kernel_rfl) (by kernel_rfl) noPanic_put rfl (.pointer (some ⟨b, 1, none⟩)) (fun _ _ => by go_simp) hS ?_
    simp only [Act.put, List.setIfInBounds_toArray, List.set_cons_zero, List.set_cons_succ]
    refine held_valS 4 (some 21) rfl rfl (by kernel_rfl) (by kernel_rfl) (by kernel_rfl) noPanic_put rfl (.int .i64 n) (fun w' h => by have c := h.1; go_simp) hS ?_
    simp only [Act.put, List.setIfInBounds_toArray, List.set_cons_zero, List.set_cons_succ]
    refine held_valS 5 (some 22) rfl rfl (by kernel_rfl) (by kernel_rfl) (by kernel_rfl) noPanic_put rfl (.int .i64 d) (fun w' h => by have c := h.2; go_simp) hS ?_
    simp only [Act.put, List.setIfInBounds_toArray, List.set_cons_zero, List.set_cons_succ]
    refine held_valS 6 (some 23) rfl rfl (by kernel_rfl) (by kernel_rfl) (by kernel_rfl) noPanic_put rfl (.int .i64 (n + d)) (fun _ _ => by go_simp) hS ?_
    simp only [Act.put, List.setIfInBounds_toArray, List.set_cons_zero, List.set_cons_succ]
    refine held_call 7 (some 24) (by kernel_rfl) rfl rfl rfl 90 #[.int .i64 (n + d)] (by go_simp) _ (variable_any (n + d) _) ?_
    rintro e w5 ⟨⟨b', rfl, hT5⟩, hB5⟩
    have hS5 : w5.cell? ⟨b, 1, none⟩ = some (.int .i64 n) ∧ w5.cell? ⟨bd, 0, none⟩ = some (.int .i64 d) := ⟨by rw [hB5.cell (p := ⟨b, 1, none⟩) hbl]; exact k1, by rw [hB5.cell (p := ⟨bd, 0, none⟩) hdl]; exact kd⟩
    refine ⟨_, rfl, hS5, ?_⟩
    simp only [Act.put, List.setIfInBounds_toArray, List.set_cons_zero, List.set_cons_succ]
    refine held_assign 8 (some 6) (by kernel_rfl) rfl rfl _ rfl rfl (.pointer (some ⟨b', 0, none⟩)) rfl hS5 ?_
    simp only [Act.put, List.setIfInBounds_toArray, List.set_cons_zero, List.set_cons_succ]
    refine wpAnyH_done (by kernel_rfl) ?_ _
    refine NoPanic.normal ?_
    have HF := hideT' (And.intro hT5 hB5)
    go_wp2
    go_ret
    exact ⟨⟨b', rfl, by rw [HE.out]; exact TrIn.mono (fun x hx _ => .inr hx) HF.out.1⟩, ⟨HF.out.2.os, HF.out.2.tape, HF.out.2.output, HF.out.2.size, HF.out.2.block⟩⟩
theorem call_shifted1 : ∀ args w, (callFunc 98 args).run Try.prog w = .ok (.enter 98 args) w := enters_of Try.func98 (by kernel_rfl) rfl
set_option maxHeartbeats 2000000 in
/-- What shifted makes, in old blocks below those of wo and new ones. -/
theorem shifted_in (t : Lm) (b : Nat) (d f0 : Int) (P0 : Nat → Prop) (w : World) (hP : ∀ x, P0 x → x < w.heap.size) (hT : TrIn w P0 t b) (hs : t.sz ≤ 100000) (hbd : t.bd) (hd : -1000000 ≤ d ∧ d ≤ 1000000) (hf : -1000000 ≤ f0 ∧ f0 ≤ 1000000) :
    Calls Try.prog 61 #[.pointer (some ⟨b, 0, none⟩), .int .i64 d, .int .i64 f0] w fun e w' => (∃ b', e = .returned (.pointer (some ⟨b', 0, none⟩)) ∧ TrIn w' (fun x => P0 x ∨ w.heap.size ≤ x) (t.shift d f0) b') ∧ Below w.heap.size w w' := by
  obtain ⟨w0, hw0⟩ : ∃ w0, w0 = (w.alloc (.cells #[.int .i64 d] 3)).alloc (.cells #[.int .i64 f0] 3) := ⟨_, rfl⟩
  have hB0 : Below w.heap.size w w0 := by rw [hw0]; exact ((Below.refl _ _).alloc (Nat.le_refl _) _).alloc (by simp) _
  have hs0 : w0.heap.size = w.heap.size + 2 := by rw [hw0]; simp
  have cd : w0.cell? ⟨w.heap.size, 0, none⟩ = some (.int .i64 d) := by
    rw [hw0, cell_of_row _ _ _ _ _ _ (RowAt.old (RowAt.new w 3 #[.int .i64 d]) _)]; rfl
  have cf : w0.cell? ⟨w.heap.size + 1, 0, none⟩ = some (.int .i64 f0) := by
    have hr : RowAt w0 (w.heap.size + 1) 3 #[.int .i64 f0] := by
      rw [hw0]
      have := RowAt.new (w.alloc (.cells #[.int .i64 d] 3)) 3 #[.int .i64 f0]
      rwa [World.size_alloc] at this
    rw [cell_of_row _ _ _ _ _ _ hr]; rfl
  have hT0 : TrIn w0 P0 t b := TrIn.keep (w := w) hB0.size (fun x _ hx => hB0.block x hx) (fun x h hx => h) hT
  have hsh := shiftV_map d f0 t 0
  have HC := hideT' (replaced_any w0 P0 (fun x h => by have := hP x h; omega) 98 #[.pointer (some ⟨w.heap.size + 1, 0, none⟩), .pointer (some ⟨w.heap.size, 0, none⟩)] (shiftV d f0) call_shifted1 (shiftLeaf w0 P0 (w.heap.size + 1) w.heap.size d f0 hd hf (by omega) (by omega) cf cd) t.sz t (Nat.le_refl _) b 0 w0 (Below.refl _ _) hT0 (by rw [hsh, (Lm.shift_sz d t _).1]; omega) (by omega) hbd)
  rw [hsh] at HC
  have HE : Hid (t.shift d (f0 + ((0 : Nat) : Int)) = t.shift d f0) := by unfold Hid; congr 1; omega
  have HB0 := hideT' hB0
  clear hT hT0 cd cf hsh hbd hd hf hB0
  go_enter Try.func61, Try.ntmps61
  go_wp2_with fail
  rw [← hw0]
  refine HC.out.mono ?_
  rintro e w2 ⟨⟨b', rfl, hT2⟩, hB2⟩
  have HF : Hid (TrIn w2 (fun x => P0 x ∨ w.heap.size ≤ x) (t.shift d f0) b' ∧ Below w.heap.size w w2) := ⟨by rw [← HE.out]; exact TrIn.mono (fun x hx _ => hx.imp id (fun h => by omega)) hT2, HB0.out.trans (hB2.mono HB0.out.size)⟩
  clear hT2 hB2
  go_wp2
  go_ret
  exact ⟨⟨b', rfl, HF.out.1⟩, HF.out.2⟩
/-- What shifted makes. -/
theorem shifted_any (t : Lm) (b : Nat) (d f0 : Int) (w : World) (hT : TrIn w (fun _ => True) t b) (hs : t.sz ≤ 100000) (hbd : t.bd) (hd : -1000000 ≤ d ∧ d ≤ 1000000) (hf : -1000000 ≤ f0 ∧ f0 ≤ 1000000) :
    Calls Try.prog 61 #[.pointer (some ⟨b, 0, none⟩), .int .i64 d, .int .i64 f0] w fun e w' => (∃ b', e = .returned (.pointer (some ⟨b', 0, none⟩)) ∧ TrIn w' (fun _ => True) (t.shift d f0) b') ∧ Below w.heap.size w w' := by
  refine (shifted_in t b d f0 (fun x => x < w.heap.size) w (fun _ h => h) (TrIn.mono (fun x _ hx => hx) hT) hs hbd hd hf).mono ?_
  rintro e w2 ⟨⟨b', rfl, hT2⟩, hB2⟩
  exact ⟨⟨b', rfl, TrIn.mono (fun _ _ _ => trivial) hT2⟩, hB2⟩
end Go.Proofs.Ytbnagagdboeedaa
