/-
  The texts CbSpecTold, CbTold, CbSpecLc, CbLcOut, CbImplRep, CbPutS, CbPut, CbHas, CbAbsS, one behind the other, as one.
-/
import Derived.Test.YtnnhedncdpfiaaaTailCombOfTermA
import Derived.Deep.QuietTactic
import Derived.BigQuiet

/-
  What lcFlat and lcTold of the model answer.
-/
namespace Go.Proofs.Ytnnhedncdpfiaaa.CB
open Go.RowKit BL
set_option linter.unusedVariables false

/-- The nodes of a tree behind others, as the model lays them: no more than are too many. -/
def flatC : List Nd → Lm → Int → List Nd
  | l, .var n, up => l ++ [⟨n.kd, n.nm, up⟩]
  | l, .app s t, up =>
    if (if (l ++ [(⟨2, 0, up⟩ : Nd)]).length ≤ 200 then flatC (l ++ [⟨2, 0, up⟩]) s (l.length : Int) else l ++ [⟨2, 0, up⟩]).length ≤ 200
    then flatC (if (l ++ [(⟨2, 0, up⟩ : Nd)]).length ≤ 200 then flatC (l ++ [⟨2, 0, up⟩]) s (l.length : Int) else l ++ [⟨2, 0, up⟩]) t (l.length : Int)
    else if (l ++ [(⟨2, 0, up⟩ : Nd)]).length ≤ 200 then flatC (l ++ [⟨2, 0, up⟩]) s (l.length : Int) else l ++ [⟨2, 0, up⟩]
/-- One part more. -/
def partC (k : Int) (l : List Nd) (s : Lm) : List Nd := if l.length ≤ 200 then flatC l s k else l
theorem flatC_kids (l : List Nd) (t : Lm) (up : Int) : flatC l t up = t.kids.foldl (partC (l.length : Int)) (l ++ [⟨t.kd, t.nm, up⟩]) := by
  cases t <;> rfl
theorem flatC_spec : ∀ (t : Lm) (l : List Nd) (up : Int), l.length ≤ 200 → (l.length + t.sz ≤ 200 → flatC l t up = l ++ t.flat l.length up) ∧ (200 < l.length + t.sz → 200 < (flatC l t up).length) ∧ (flatC l t up).length ≤ 201
  | .var n, l, up, h => by
    refine ⟨fun _ => rfl, fun h2 => ?_, ?_⟩
    · simp only [flatC, List.length_append, List.length_singleton, Lm.sz] at h2 ⊢; omega
    · simp only [flatC, List.length_append, List.length_singleton]; omega
  | .app s t, l, up, h => by
    have hl : (l ++ [(⟨2, 0, up⟩ : Nd)]).length = l.length + 1 := by simp
    have := s.sz_pos
    have := t.sz_pos
    by_cases h1 : l.length + 1 ≤ 200
    · have ih := flatC_spec s (l ++ [⟨2, 0, up⟩]) (l.length : Int) (by omega)
      rw [hl] at ih
      obtain ⟨m, hm⟩ : ∃ m, m = flatC (l ++ [⟨2, 0, up⟩]) s (l.length : Int) := ⟨_, rfl⟩
      have e : flatC l (.app s t) up = if m.length ≤ 200 then flatC m t (l.length : Int) else m := by rw [flatC, if_pos (show (l ++ [(⟨2, 0, up⟩ : Nd)]).length ≤ 200 by omega), ← hm]
      rw [← hm] at ih
      rw [e]
      by_cases h2 : m.length ≤ 200
      · rw [if_pos h2]
        have hfit : l.length + 1 + s.sz ≤ 200 := by
          rcases Nat.lt_or_ge 200 (l.length + 1 + s.sz) with h3 | h3
          · have := ih.2.1 h3; omega
          · omega
        have hme := ih.1 hfit
        have hml : m.length = l.length + 1 + s.sz := by rw [hme, List.length_append, hl, Lm.flat_sz]
        have ih2 := flatC_spec t m (l.length : Int) h2
        refine ⟨fun h3 => ?_, fun h3 => ih2.2.1 (by simp only [Lm.sz] at h3; omega), ih2.2.2⟩
        rw [ih2.1 (by simp only [Lm.sz] at h3; omega), Lm.flat, hml, hme]
        simp
      · rw [if_neg h2]
        refine ⟨fun h3 => ?_, fun _ => by omega, ih.2.2⟩
        exfalso
        simp only [Lm.sz] at h3
        have := ih.1 (by omega)
        rw [this, List.length_append, hl, Lm.flat_sz] at h2
        omega
    · have e : flatC l (.app s t) up = l ++ [⟨2, 0, up⟩] := by rw [flatC, if_neg (show ¬ (l ++ [(⟨2, 0, up⟩ : Nd)]).length ≤ 200 by omega), if_neg (by omega)]
      rw [e, hl]
      refine ⟨fun h2 => ?_, fun _ => by omega, by omega⟩
      simp only [Lm.sz] at h2; omega
theorem goodS_flatC (t : Lm) : goodS (flatC [] t (-1)) = t.good := by
  have h := flatC_spec t [] (-1) (by simp)
  simp only [List.length_nil, Nat.zero_add, List.nil_append] at h
  rcases Nat.lt_or_ge 200 t.sz with h1 | h1
  · have h2 := h.2.1 h1
    rw [goodS_short (by simp; omega)]
    unfold Lm.good
    rw [decide_eq_false (show ¬ t.sz ≤ 200 by omega)]; simp
  · rw [h.1 h1]; exact goodS_flat t
/-- The same as the program tells. -/
theorem flatC_told (t : Lm) (h : t.good = true) : flatC [] t (-1) = t.flat 0 (-1) := by
  have h1 := flatC_spec t [] (-1) (by simp)
  simp only [List.length_nil, Nat.zero_add, List.nil_append] at h1
  exact h1.1 (Lm.good_sz h).1
theorem partC_len {k : Int} {l : List Nd} {s : Lm} (h : l.length ≤ 201) : (partC k l s).length ≤ 201 := by
  unfold partC
  split
  · next h1 => exact (flatC_spec s l k h1).2.2
  · exact h

/-- What lcFlat does: the row stays the caller's own, all else but new memory stays. -/
def FlatC (N : Nat) : Prop := ∀ (t : Lm), t.sz ≤ N → ∀ (l : List Nd) (v : Value) (up : Int) (z : Value) (P : Nat → Prop) (B : Nat) (w : World), l.length ≤ 200 → B ≤ w.heap.size → OwnR w B v 64 combL 3 (tri l) → LcIn w P t z → (∀ b, P b → v.ownBlock ≠ some b) →
    Calls Try.prog 71 #[v, .agg (lcC t.kd t.nm z), .int .i64 up] w fun e w' => (∃ u, e = .returned u ∧ OwnR w' B u 64 combL 3 (tri (flatC l t up)) ∧ (∀ b, u.ownBlock = some b → v.ownBlock = some b ∨ w.heap.size ≤ b)) ∧ w.grownBy w' v.ownBlock
theorem tri_app (a b : List Nd) : tri (a ++ b) = tri a ++ tri b := by simp [tri]

set_option maxHeartbeats 8000000 in
set_option maxRecDepth 100000 in
theorem lcFlat_step (N : Nat) (IH : ∀ n, n < N → FlatC n) : FlatC N := by
  intro t ht l v up z P B w hl hBw hv hz hPv
  have HIH := hideT' IH
  have HTN := hideT' ht
  obtain ⟨ov, cv, hvv⟩ := own_formT hv
  rw [tri_len] at hvv
  subst hvv
  obtain ⟨oz, cz, hzz, _⟩ := hz.parts
  have HPV := hideT' hPv
  have HZ := hideT' hz
  obtain ⟨m, hm⟩ : ∃ m, m = t.kids.length := ⟨_, rfl⟩
  have hm2 : m ≤ 2 := by rw [hm]; cases t <;> simp [Lm.kids]
  rw [← hm] at hzz
  subst hzz
  have HM := hideT' hm
  obtain ⟨kd, hkd⟩ : ∃ kd, kd = t.kd := ⟨_, rfl⟩
  obtain ⟨nm, hnm⟩ : ∃ nm, nm = t.nm := ⟨_, rfl⟩
  rw [← hkd, ← hnm]
  have HKN := hideT' (And.intro hkd hnm)
  have HV : Hid (w.ownsRow B 64 3 (.slice ov l.length cv) l.length ((tri l).flatMap combL)) := by unfold Hid; have := hv; unfold OwnR at this; rw [tri_len] at this; exact this
  obtain ⟨n, hn⟩ : ∃ n, n = l.length := ⟨_, rfl⟩
  have HNN := hideT' hn
  rw [← hn] at hl HV HPV ⊢
  clear IH ht hv hz hPv hm hkd hnm hn
  have hz0 := zero_lcT.1
  have hzt := zero_comb.1
  obtain ⟨i0, hi, hzz0, hzz1, hzz2⟩ := info_parts info_comb
  show Calls Try.prog 71 #[.slice ov n cv, .agg #[.int .i64 kd, .int .i64 nm, .slice oz m cz], .int .i64 up] w _
  have HTC : Hid (∀ j u, (combL (kd, nm, up))[j]? = some u → ((w.alloc (.cells #[.int .i64 kd, .int .i64 nm, .slice oz m cz] 75)).alloc (.cells #[.int .i64 kd, .int .i64 nm, .int .i64 up] 64)).cell? ((⟨w.heap.size + 1, 0, none⟩ : Addr).add j) = some u) := by
    have := comb_cells (w.alloc (.cells #[.int .i64 kd, .int .i64 nm, .slice oz m cz] 75)) (kd, nm, up)
    rw [World.size_alloc] at this
    exact this
  have HRT : Hid (RowAt ((w.alloc (.cells #[.int .i64 kd, .int .i64 nm, .slice oz m cz] 75)).alloc (.cells #[.int .i64 kd, .int .i64 nm, .int .i64 up] 64)) w.heap.size 75 #[.int .i64 kd, .int .i64 nm, .slice oz m cz]) := RowAt.old (RowAt.new _ _ _) _
  have HBA : Hid (Below w.heap.size w ((w.alloc (.cells #[.int .i64 kd, .int .i64 nm, .slice oz m cz] 75)).alloc (.cells #[.int .i64 kd, .int .i64 nm, .int .i64 up] 64))) := ((Below.refl _ _).alloc (Nat.le_refl _) _).alloc (by simp) _
  have HOB : Hid (∀ b, (Value.slice ov n cv).ownBlock = some b → B ≤ b ∧ b < w.heap.size) := fun b hb => HV.out.lt b hb
  go_enter Try.func71, Try.ntmps71
  go_wp2_with (at_builtin; refine append_own3 _ rfl _ _ 38 rfl B 64 i0 (.agg #[.int .i64 0, .int .i64 0, .int .i64 0]) 3 24 Try.underlying38 hi hzz0 hzz1 hzz2 rfl (by decide) (.slice ov n cv) n _ rfl ((HV.out.alloc _).alloc _) ⟨w.heap.size + 1, 0, none⟩ 1 1 (combL (kd, nm, up)) rfl rfl HTC.out (combL_one _) (by omega) (by unfold maxLen; omega) (by omega) (by simp; omega) ?_; intro v6 w6 hv6 hg6 hb6; obtain ⟨o6, c6, rfl⟩ := own_formT hv6; have f2 : w6.cell? ⟨w.heap.size, 2, none⟩ = some (.slice oz m cz) := (by rw [cell_of_row _ _ _ _ _ _ (HRT.out.grown hg6 (fun e => by have := (HOB.out _ e.symm).2; omega))]; rfl); have HV6 := hideT' hv6; have HG6 := hideT' hg6; have HB6 := hideT' hb6; clear hv6 hg6 hb6)
  have HS0 : Hid (∃ cur, cur = l ++ [⟨kd, nm, up⟩] ∧ OwnR w6 B (.slice o6 (n + 1) c6) 64 combL 3 (tri cur) ∧ (∀ b, (Value.slice o6 (n + 1) c6).ownBlock = some b → (Value.slice ov n cv).ownBlock = some b ∨ w.heap.size ≤ b) ∧ w.grownBy w6 (Value.slice ov n cv).ownBlock) := by
    refine ⟨_, rfl, ?_, fun b hb => ?_, ?_⟩
    · unfold OwnR
      rw [tri_app, List.length_append, List.flatMap_append, tri_len, ← HNN.out]
      exact HV6.out
    · rcases HB6.out with h | h
      · exact .inl (by rw [← h]; exact hb)
      · rw [h] at hb
        injection hb with hb
        simp at hb
        exact .inr (by omega)
    · have hsz := HG6.out.size
      exact ⟨HG6.out.os.trans HBA.out.os, HG6.out.tape.trans HBA.out.tape, HG6.out.output.trans HBA.out.output, by simp at hsz; omega, fun k hk hne => by rw [HG6.out.block k (by simp; omega) hne]; exact HBA.out.block k hk⟩
  go_loopg [0, 24] m (fun gg xv i wr => ∃ (As Bs : List Lm) (cur : List Nd) (ox : Option Addr) (cx k : Nat), gg = Bs.length ∧ Hid (t.kids = As ++ Bs) ∧ i = .int .i64 (As.length : Int) ∧ xv = .slice ox k cx ∧ k ≤ 201 ∧ Hid (k = cur.length ∧ cur = As.foldl (partC (n : Int)) (l ++ [⟨kd, nm, up⟩]) ∧ OwnR wr B (.slice ox k cx) 64 combL 3 (tri cur) ∧ (∀ b, (Value.slice ox k cx).ownBlock = some b → (Value.slice ov n cv).ownBlock = some b ∨ w.heap.size ≤ b) ∧ w.grownBy wr (Value.slice ov n cv).ownBlock))
  case atStart =>
    obtain ⟨cur, e1, e2, e3, e4⟩ := HS0.out
    exact ⟨[], t.kids, cur, o6, c6, n + 1, by rw [HM.out], rfl, rfl, rfl, by omega, ⟨by rw [e1, List.length_append, ← HNN.out]; rfl, e1, e2, e3, e4⟩⟩
  case round =>
    obtain ⟨As, Bs, cur, ox, cx, k, hgg, HA, rfl, rfl, hk151, HS⟩ := hrel
    obtain ⟨j, hj⟩ : ∃ j, j = As.length := ⟨_, rfl⟩
    rw [← hj]
    have HJ := hideT' hj
    clear hj
    cases Bs with
    | nil =>
      have hjm : j = m := by rw [HJ.out, HM.out, HA.out]; simp
      have hnl : ¬ (j : Int) < (m : Int) := by omega
      clear hgg hjm
      go_wp2
      go_ret
      obtain ⟨hk, hc, h1, h2, h3⟩ := HS.out
      refine ⟨⟨_, rfl, ?_, h2⟩, h3⟩
      have e : flatC l t up = cur := by rw [flatC_kids, HA.out, List.append_nil, hc, ← HNN.out, HKN.out.1, HKN.out.2]
      rw [e]; exact h1
    | cons T Bs =>
      have hil : (j : Int) < (m : Int) := by rw [HM.out, HA.out, List.length_append, ← HJ.out]; simp; omega
      have hkj : t.kids[j]? = some T := by rw [HA.out, HJ.out]; simp
      obtain ⟨hk, hcu, hOx, hbx, hgw⟩ := HS.out
      have hzr : LcIn wr (fun b => P b ∧ b < w.heap.size) t (.slice oz m cz) := LcIn.keep (w := w) hgw.size (fun x hx hl => hgw.block x hl (fun e => HPV.out x hx e.symm)) (fun x hx hl => ⟨hx, hl⟩) HZ.out
      obtain ⟨o', c', e', hpart⟩ := hzr.parts
      cases e'
      obtain ⟨g, z1, hoz, hg, ⟨c0, c1, c2⟩, hz1⟩ := hpart j T hkj
      subst hoz
      have hg1 := hg.1
      obtain ⟨oz1, cz1, hzz1'⟩ := hz1.form
      subst hzz1'
      have hTs := Lm.kids_lt (List.mem_of_getElem? hkj)
      obtain ⟨W2, hW2⟩ : ∃ W2, W2 = wr.alloc (.cells #[.int .i64 T.kd, .int .i64 T.nm, .slice oz1 T.kids.length cz1] 75) := ⟨_, rfl⟩
      have hB2 : Below wr.heap.size wr W2 := by rw [hW2]; exact (Below.refl _ _).alloc (Nat.le_refl _) _
      have hws := hgw.size
      have hO2 : OwnR W2 B (.slice ox k cx) 64 combL 3 (tri cur) := OwnR.below hOx hB2 (Nat.le_refl _)
      have hz2 : LcIn W2 (fun b => P b ∧ b < w.heap.size) T (.slice oz1 T.kids.length cz1) := LcIn.below hB2 hz1
      by_cases hle : k ≤ 200
      · have HCALL := hideT' (HIH.out T.sz (by have := HTN.out; omega) T (Nat.le_refl _) cur (.slice ox k cx) (n : Int) _ _ B W2 (by omega) (by have := hB2.size; omega) hO2 hz2 (fun b hb e => by rcases hbx b e with h | h; exact HPV.out b hb.1 h; omega))
        have HCU : Hid (partC (n : Int) cur T = flatC cur T (n : Int)) := by unfold Hid partC; rw [if_pos (by omega)]
        have HKL : Hid ((flatC cur T (n : Int)).length ≤ 201) := (flatC_spec T cur (n : Int) (by omega)).2.2
        have hki : (k : Int) ≤ 200 := by omega
        have HS2 := hideT' (And.intro hk (And.intro hcu (And.intro hbx (And.intro hgw hB2))))
        clear hk hcu hOx hbx hgw hzr hpart hz1 hO2 hz2 hB2 hkj HS
        unfold lcC at HCALL
        go_wp2_with fail
        rw [← hW2]
        refine HCALL.out.mono ?_
        rintro e w9 ⟨⟨u, rfl, hO9, hb9⟩, hg9⟩
        obtain ⟨hk, hcu, hbx, hgw, hB2⟩ := HS2.out
        have hs2 : W2.heap.size = wr.heap.size + 1 := by rw [hW2]; simp
        obtain ⟨o9, c9, he9⟩ := own_formT hO9
        rw [tri_len] at he9
        subst he9
        obtain ⟨k9, hk9⟩ : ∃ k9, k9 = (flatC cur T (n : Int)).length := ⟨_, rfl⟩
        have hk9l : k9 ≤ 201 := by rw [hk9]; exact HKL.out
        rw [← hk9] at hO9 hb9 ⊢
        have HEND : Hid (k9 = (flatC cur T (n : Int)).length ∧ flatC cur T (n : Int) = (As ++ [T]).foldl (partC (n : Int)) (l ++ [⟨kd, nm, up⟩]) ∧ OwnR w9 B (.slice o9 k9 c9) 64 combL 3 (tri (flatC cur T (n : Int))) ∧ (∀ b, (Value.slice o9 k9 c9).ownBlock = some b → (Value.slice ov n cv).ownBlock = some b ∨ w.heap.size ≤ b) ∧ w.grownBy w9 (Value.slice ov n cv).ownBlock) := by
          refine ⟨hk9, by rw [List.foldl_append, ← hcu]; exact HCU.out.symm, hO9, fun b hb => ?_, ?_⟩
          · rcases hb9 b hb with h | h
            · exact hbx b h
            · exact .inr (by omega)
          · refine ⟨hg9.os.trans (hB2.os.trans hgw.os), hg9.tape.trans (hB2.tape.trans hgw.tape), hg9.output.trans (hB2.output.trans hgw.output), by have := hg9.size; omega, fun b hb hne => ?_⟩
            rw [hg9.block b (by omega) (fun e => by rcases hbx b e.symm with h | h; exact hne h.symm; omega), hB2.block b (by omega)]
            exact hgw.block b hb hne
        have HA2 : Hid (t.kids = (As ++ [T]) ++ Bs) := by unfold Hid; rw [HA.out]; simp
        clear hk hcu hbx hgw hB2 hO9 hb9 hg9 hW2 hk9
        go_wp2
        go_roundg Bs.length
        case measure => first | omega | (rw [hgg]; simp)
        case rel => exact ⟨As ++ [T], Bs, flatC cur T (n : Int), o9, c9, k9, rfl, HA2, by rw [List.length_append, ← HJ.out]; go_num, rfl, hk9l, HEND⟩
      · have HCU : Hid (partC (n : Int) cur T = cur) := by unfold Hid partC; rw [if_neg (by omega)]
        have hki : ¬ (k : Int) ≤ 200 := by omega
        have HEND : Hid (k = cur.length ∧ cur = (As ++ [T]).foldl (partC (n : Int)) (l ++ [⟨kd, nm, up⟩]) ∧ OwnR W2 B (.slice ox k cx) 64 combL 3 (tri cur) ∧ (∀ b, (Value.slice ox k cx).ownBlock = some b → (Value.slice ov n cv).ownBlock = some b ∨ w.heap.size ≤ b) ∧ w.grownBy W2 (Value.slice ov n cv).ownBlock) := by
          refine ⟨hk, by rw [List.foldl_append, ← hcu]; exact HCU.out.symm, hO2, hbx, ⟨hB2.os.trans hgw.os, hB2.tape.trans hgw.tape, hB2.output.trans hgw.output, by have := hB2.size; omega, fun b hb hne => by rw [hB2.block b (by omega)]; exact hgw.block b hb hne⟩⟩
        have HA2 : Hid (t.kids = (As ++ [T]) ++ Bs) := by unfold Hid; rw [HA.out]; simp
        clear hk hcu hOx hbx hgw hzr hpart hz1 hO2 hz2 hB2 hkj HS
        go_wp2
        rw [← hW2]
        go_roundg Bs.length
        case measure => first | omega | (rw [hgg]; simp)
        case rel => exact ⟨As ++ [T], Bs, cur, ox, cx, k, rfl, HA2, by rw [List.length_append, ← HJ.out]; go_num, rfl, hk151, HEND⟩
theorem lcFlat_all : ∀ N, FlatC N := by
  intro N
  induction N using Nat.strongRecOn with
  | _ N IH => exact lcFlat_step N IH
set_option maxHeartbeats 2000000 in
/-- What lcTold answers: as tellTree. -/
theorem lcTold_any (t : Lm) (z : Value) (P : Nat → Prop) (w : World) (hz : LcIn w P t z) :
    Calls Try.prog 50 #[.agg (lcC t.kd t.nm z)] w fun e w' => ToldT w t e w' ∧ Below w.heap.size w w' := by
  obtain ⟨oz, cz, hzz⟩ := hz.form
  subst hzz
  have hB1 : Below w.heap.size w (w.alloc (.cells #[.int .i64 t.kd, .int .i64 t.nm, .slice oz t.kids.length cz] 75)) := (Below.refl _ _).alloc (Nat.le_refl _) _
  have HB1 := hideT' hB1
  have HC := hideT' (lcFlat_all t.sz t (Nat.le_refl _) [] (.slice none 0 0) (-1) (.slice oz t.kids.length cz) P w.heap.size (w.alloc (.cells #[.int .i64 t.kd, .int .i64 t.nm, .slice oz t.kids.length cz] 75)) (by simp) hB1.size (World.ownsRow_nil _ _ _ _) (LcIn.below hB1 hz) (fun b _ e => by simp [Value.ownBlock] at e))
  have HFL : Hid ((flatC [] t (-1)).length ≤ 201) := (flatC_spec t [] (-1) (by simp)).2.2
  clear hz hB1
  unfold lcC at HC ⊢
  go_enter Try.func50, Try.ntmps50
  go_wp2_with fail
  refine HC.out.mono ?_
  rintro e w2 ⟨⟨u, rfl, hO, _⟩, hg2⟩
  have hB2 : Below w.heap.size w w2 := HB1.out.grown hg2 HB1.out.size (fun k e => by simp [Value.ownBlock] at e)
  have HG := hideT' (specGoodComb_any (flatC [] t (-1)) u w2 (OwnR.inR hO combL_len) (by have := HFL.out; omega))
  obtain ⟨r, hr⟩ : ∃ r, r = t.good := ⟨_, rfl⟩
  rw [goodS_flatC, ← hr] at HG
  have HR := hideT' hr
  have HO := hideT' hO
  have HB2 := hideT' hB2
  clear hr hO hB2 hg2
  go_wp2_with fail
  refine HG.out.mono ?_
  rintro e w3 ⟨rfl, hB3⟩
  have HB3 : Hid (Below w.heap.size w w3) := HB2.out.trans (hB3.mono HB2.out.size)
  have HO3 := hideT' (OwnR.below (l := tri (flatC [] t (-1))) HO.out hB3 (Nat.le_refl _))
  clear hB3
  cases r with
  | false =>
    go_wp2
    go_ret2
    exact ⟨⟨.slice none 0 0, by rw [← HR.out]; rfl, by rw [← HR.out]; exact World.ownsRow_nil _ _ _ _⟩, HB3.out⟩
  | true =>
    go_wp2
    go_ret2
    refine ⟨⟨u, by rw [← HR.out]; rfl, ?_⟩, HB3.out⟩
    rw [← HR.out, if_pos rfl, ← flatC_told t HR.out.symm]
    exact HO3.out
end Go.Proofs.Ytnnhedncdpfiaaa.CB

/-
  What is told of a term that may be none: the answers of functions that give a term and whether it is good.
-/
namespace Go.Proofs.Ytnnhedncdpfiaaa.CB
open Go.RowKit BL
set_option linter.unusedVariables false

def toldB : Option Lm → Bool
  | none => false
  | some t => t.good
def toldL : Option Lm → List (Int × Int × Int)
  | none => []
  | some t => if t.good then tri (t.flat 0 (-1)) else []
theorem toldL_len (o : Option Lm) : (toldL o).length ≤ 1048576 := by
  cases o with
  | none => simp [toldL]
  | some t =>
    unfold toldL
    simp only
    split
    · next h => rw [tri_len, Lm.flat_sz]; have := (Lm.good_sz h).1; omega
    · simp
def TOut (w : World) (o : Option Lm) (e : Ending) (w' : World) : Prop := ∃ u, e = .returned (.tuple #[u, .bool (toldB o)]) ∧ OwnR w' w.heap.size u 64 combL 3 (toldL o)
theorem TOut.no {w w' : World} : TOut w none (.returned (.tuple #[.slice none 0 0, .bool false])) w' := ⟨_, rfl, World.ownsRow_nil _ _ _ _⟩
theorem TOut.bad {w w' : World} {o : Option Lm} (h : o = none) : TOut w o (.returned (.tuple #[.slice none 0 0, .bool false])) w' := by subst h; exact TOut.no
theorem ToldT.out {w w1 w' : World} {t : Lm} {e : Ending} {o : Option Lm} (h : ToldT w1 t e w') (hs : w.heap.size ≤ w1.heap.size) (ho : o = some t) : TOut w o e w' := by
  subst ho
  obtain ⟨u, he, hO⟩ := h
  exact ⟨u, he, ⟨hO.1, hO.2.imp id fun ⟨g, cap, cur, h1, h2, h3⟩ => ⟨g, cap, cur, h1, Nat.le_trans hs h2, h3⟩⟩⟩
/-- A told answer's parts. -/
theorem ToldT.parts {w w' : World} {t : Lm} {e : Ending} (h : ToldT w t e w') : ∃ u, e = .returned (.tuple #[u, .bool t.good]) ∧ OwnR w' w.heap.size u 64 combL 3 (toldL (some t)) := h
theorem readP'_facts {l : List Nd} {t : Lm} (h : readP' l = some t) : l = t.flat 0 (-1) ∧ t.sz ≤ 200 ∧ t.dp ≤ 60 ∧ t.ok = true ∧ t.good = true := by
  have h1 := (readP'_iff l t).1 h
  have h2 := Lm.good_sz h1.2
  exact ⟨h1.1, h2.1, h2.2.1, h2.2.2, h1.2⟩
theorem goodS_none {l : List Nd} (h : readP' l = none) : goodS l = false := by rw [goodS_read, h]; rfl
theorem goodS_some {l : List Nd} {t : Lm} (h : readP' l = some t) : goodS l = true := by rw [goodS_read, h]; rfl
/-- lcTree of a whole good row. -/
theorem lcTree_whole (l : List Nd) (t : Lm) (v : Value) (w : World) (hv : NdIn w v l) (h : readP' l = some t) :
    Calls Try.prog 52 #[v, .int .i64 0] w fun e w' => (∃ z, e = .returned (.agg (lcC t.kd t.nm z)) ∧ LcIn w' (fun x => w.heap.size ≤ x) t z) ∧ Below w.heap.size w w' := by
  obtain ⟨h1, h2, _⟩ := readP'_facts h
  exact lcTree_all t.sz t (Nat.le_refl _) l 0 (-1) v w (by rw [h1, Lm.flat_sz]; exact h2) hv (by rw [h1]; exact Seg.whole t) (fun i h3 h4 => by rw [h1, Lm.flat_sz] at h4; omega)
end Go.Proofs.Ytnnhedncdpfiaaa.CB

/-
  What the small makers of trees of the model answer: lcVar, lcLam, lcApp.
-/
namespace Go.Proofs.Ytnnhedncdpfiaaa.CB
open Go.RowKit BL
set_option linter.unusedVariables false

set_option maxHeartbeats 1000000 in
theorem ldOne_any (k : Int) (w : World) : Calls Try.prog 74 #[.int .i64 k] w fun e w' => e = .returned (.agg (lcC k 0 (.slice none 0 0))) ∧ Below w.heap.size w w' := by
  have hz := zero_lcT.1
  have HR := hideT' (RowAt.new w 75 #[.int .i64 k, .int .i64 0, .slice none 0 0])
  unfold lcC
  go_enter Try.func74, Try.ntmps74
  go_wp2
  refine bodyPost_ret (v := .agg #[.int .i64 k, .int .i64 0, .slice none 0 0]) (results_cell_row Try.results74 _ _ w.heap.size 75 #[.int .i64 k, .int .i64 0, .slice none 0 0] (0, 0) _ rfl HR.out Try.underlying75 rfl zero_lcT.2) rfl ⟨rfl, (Below.refl _ _).alloc (Nat.le_refl _) _⟩
set_option maxHeartbeats 2000000 in
theorem lcApp_any (s t : Lm) (z1 z2 : Value) (P : Nat → Prop) (w : World) (h1 : LcIn w P s z1) (h2 : LcIn w P t z2) :
    Calls Try.prog 73 #[.agg (lcC s.kd s.nm z1), .agg (lcC t.kd t.nm z2)] w fun e w' => (∃ z', e = .returned (.agg (lcC 2 0 z')) ∧ LcIn w' (fun x => P x ∨ w.heap.size ≤ x) (.app s t) z') ∧ Below w.heap.size w w' := by
  have hz := zero_lcT.1
  obtain ⟨o1, c1, rfl⟩ := h1.form
  obtain ⟨o2, c2, rfl⟩ := h2.form
  obtain ⟨W, hW⟩ : ∃ W, W = (((w.alloc (.cells #[.int .i64 s.kd, .int .i64 s.nm, .slice o1 s.kids.length c1] 75)).alloc (.cells #[.int .i64 t.kd, .int .i64 t.nm, .slice o2 t.kids.length c2] 75)).alloc (.cells #[.int .i64 2, .int .i64 0, .slice (some ⟨w.heap.size + 1 + 1 + 1, 0, none⟩) 2 2] 75)).alloc (.cells #[.int .i64 s.kd, .int .i64 s.nm, .slice o1 s.kids.length c1, .int .i64 t.kd, .int .i64 t.nm, .slice o2 t.kids.length c2] 75) := ⟨_, rfl⟩
  have hB : Below w.heap.size w W := by rw [hW]; exact ((((Below.refl _ _).alloc (Nat.le_refl _) _).alloc (by simp) _).alloc (by simp; omega) _).alloc (by simp; omega) _
  have hR : RowAt W (w.heap.size + 1 + 1) 75 #[.int .i64 2, .int .i64 0, .slice (some ⟨w.heap.size + 1 + 1 + 1, 0, none⟩) 2 2] := by
    rw [hW]
    have := RowAt.new ((w.alloc (.cells #[.int .i64 s.kd, .int .i64 s.nm, .slice o1 s.kids.length c1] 75)).alloc (.cells #[.int .i64 t.kd, .int .i64 t.nm, .slice o2 t.kids.length c2] 75)) 75 #[.int .i64 2, .int .i64 0, .slice (some ⟨w.heap.size + 1 + 1 + 1, 0, none⟩) 2 2]
    rw [World.size_alloc, World.size_alloc] at this
    exact RowAt.old this _
  have hK : RowAt W (w.heap.size + 1 + 1 + 1) 75 #[.int .i64 s.kd, .int .i64 s.nm, .slice o1 s.kids.length c1, .int .i64 t.kd, .int .i64 t.nm, .slice o2 t.kids.length c2] := by
    rw [hW]
    have := RowAt.new (((w.alloc (.cells #[.int .i64 s.kd, .int .i64 s.nm, .slice o1 s.kids.length c1] 75)).alloc (.cells #[.int .i64 t.kd, .int .i64 t.nm, .slice o2 t.kids.length c2] 75)).alloc (.cells #[.int .i64 2, .int .i64 0, .slice (some ⟨w.heap.size + 1 + 1 + 1, 0, none⟩) 2 2] 75)) 75 #[.int .i64 s.kd, .int .i64 s.nm, .slice o1 s.kids.length c1, .int .i64 t.kd, .int .i64 t.nm, .slice o2 t.kids.length c2]
    rw [World.size_alloc, World.size_alloc, World.size_alloc] at this
    exact this
  have HF : Hid (LcIn W (fun x => P x ∨ w.heap.size ≤ x) (.app s t) (.slice (some ⟨w.heap.size + 1 + 1 + 1, 0, none⟩) 2 2) ∧ Below w.heap.size w W ∧ RowAt W (w.heap.size + 1 + 1) 75 #[.int .i64 2, .int .i64 0, .slice (some ⟨w.heap.size + 1 + 1 + 1, 0, none⟩) 2 2]) := by
    refine ⟨⟨w.heap.size + 1 + 1 + 1, 2, .slice o1 s.kids.length c1, .slice o2 t.kids.length c2, rfl, ⟨hK.lt, .inr (by omega)⟩, ⟨?_, ?_, ?_⟩, ⟨?_, ?_, ?_⟩, LcIn.keep (w := w) hB.size (fun x _ hx => hB.block x hx) (fun x hx _ => .inl hx) h1, LcIn.keep (w := w) hB.size (fun x _ hx => hB.block x hx) (fun x hx _ => .inl hx) h2⟩, hB, hR⟩ <;> (rw [cell_of_row _ _ _ _ _ _ hK]; rfl)
  clear h1 h2 hB hR hK
  unfold lcC
  go_enter Try.func73, Try.ntmps73
  go_wp2
  rw [← hW]
  exact bodyPost_ret (v := .agg #[.int .i64 2, .int .i64 0, .slice (some ⟨w.heap.size + 1 + 1 + 1, 0, none⟩) 2 2]) (results_cell_row Try.results73 _ _ (w.heap.size + 1 + 1) 75 #[.int .i64 2, .int .i64 0, .slice (some ⟨w.heap.size + 1 + 1 + 1, 0, none⟩) 2 2] (0, 0) _ rfl HF.out.2.2 Try.underlying75 rfl zero_lcT.2) rfl ⟨⟨_, rfl, HF.out.1⟩, HF.out.2.1⟩
end Go.Proofs.Ytnnhedncdpfiaaa.CB

/-
  A tree of the model that is made part by part, in memory.
-/
namespace Go.Proofs.Ytnnhedncdpfiaaa.CB
open Go.RowKit BL
set_option linter.unusedVariables false

/-- Blocks of parts of a new tree: old ones below its own, and new ones, but for the row of the parts. -/
def OutP (w3 : World) (ob : Nat) (P : Nat → Prop) (z : Value) (x : Nat) : Prop := ((P x ∧ x < ob) ∨ w3.heap.size ≤ x) ∧ z.ownBlock ≠ some x
structure OutZ (w3 wr : World) (ob : Nat) (kd nm : Int) (P : Nat → Prop) (As : List Lm) (z : Value) (ys : List Value) : Prop where
  row : RowAt wr ob 75 (lcC kd nm z)
  own : wr.ownsRow w3.heap.size 75 3 z As.length ys
  kids : LcsIn wr (OutP w3 ob P z) As ys
  same : ∀ b, b < w3.heap.size → b ≠ ob → wr.heap[b]? = w3.heap[b]?
  size : w3.heap.size ≤ wr.heap.size
  lt : ob < w3.heap.size
theorem OutZ.start {w3 : World} {ob : Nat} {kd nm : Int} {P : Nat → Prop} (h : RowAt w3 ob 75 (lcC kd nm (.slice none 0 0))) : OutZ w3 w3 ob kd nm P [] (.slice none 0 0) [] :=
  ⟨h, ⟨rfl, .inl ⟨rfl, rfl⟩⟩, rfl, fun _ _ _ => rfl, Nat.le_refl _, h.lt⟩
theorem OutZ.below {w3 wr w' : World} {ob : Nat} {kd nm : Int} {P : Nat → Prop} {As : List Lm} {z : Value} {ys : List Value} (h : OutZ w3 wr ob kd nm P As z ys) (hB : Below wr.heap.size wr w') : OutZ w3 w' ob kd nm P As z ys :=
  ⟨h.row.below hB h.row.lt, own_keep h.own (fun g e => hB.block g (h.own.lt g e).2), LcsIn.keep hB.size (fun x _ hl => hB.block x hl) (fun _ h _ => h) h.kids, fun b hb hne => by rw [hB.block b (Nat.lt_of_lt_of_le hb h.size)]; exact h.same b hb hne, Nat.le_trans h.size hB.size, h.lt⟩
theorem OutZ.rowOf {w3 wr : World} {ob : Nat} {kd nm : Int} {P : Nat → Prop} {As : List Lm} {z : Value} {ys : List Value} (h : OutZ w3 wr ob kd nm P As z ys) {b : Nat} {T : TypeId} {cs : Array Value} (hb : b ≠ ob) (hR : RowAt w3 b T cs) : RowAt wr b T cs := by
  unfold RowAt; rw [h.same b hR.lt hb]; exact hR
theorem OutZ.push {w3 wr w6 w7 : World} {X : Obj} {ob : Nat} {kd nm : Int} {P : Nat → Prop} {As : List Lm} {z v6 z1 : Value} {ys : List Value} {T : Lm} (h : OutZ w3 wr ob kd nm P As z ys) (hT : LcIn wr (OutP w3 ob P z) T z1)
    (hv6 : w6.ownsRow w3.heap.size 75 3 v6 (As.length + 1) (ys ++ lcL T.kd T.nm z1)) (hg6 : (wr.alloc X).grownBy w6 z.ownBlock) (hb6 : v6.ownBlock = z.ownBlock ∨ v6.ownBlock = some (wr.alloc X).heap.size)
    (hR7 : RowAt w7 ob 75 (lcC kd nm v6)) (hg7 : w6.grownBy w7 (some ob)) : OutZ w3 w7 ob kd nm P (As ++ [T]) v6 (ys ++ lcL T.kd T.nm z1) := by
  have hs := h.size
  have hlt := h.lt
  have hs6 := hg6.size
  have hs7 := hg7.size
  simp only [World.size_alloc] at hs6 hb6
  have hnb : ∀ b, z.ownBlock = some b → w3.heap.size ≤ b ∧ b < wr.heap.size := fun b hb => h.own.lt b hb
  have hgx : ∀ b, b < wr.heap.size → b ≠ ob → z.ownBlock ≠ some b → w7.heap[b]? = wr.heap[b]? := fun b hb hbt hbo => by
    rw [hg7.block b (by omega) (by intro e; injection e; omega), hg6.block b (by simp; omega) (fun e => hbo e.symm), Below.heap_alloc _ _ _ hb]
  have hown6 : ∀ b, b < wr.heap.size → z.ownBlock ≠ some b → v6.ownBlock ≠ some b := fun b hb hbo e => by
    rcases hb6 with h | h
    · exact hbo (by rw [← h]; exact e)
    · rw [h] at e
      injection e with e
      omega
  have hne : ∀ x, OutP w3 ob P z x → x ≠ ob := fun x hx => by rcases hx.1 with hx | hx <;> omega
  refine ⟨hR7, ?_, LcsIn.snoc (LcIn.keep (w := wr) (by omega) (fun x hx hl => hgx x hl (hne x hx) hx.2) (fun x hx hl => ⟨hx.1, hown6 x hl hx.2⟩) hT) (LcsIn.keep (w := wr) (by omega) (fun x hx hl => hgx x hl (hne x hx) hx.2) (fun x hx hl => ⟨hx.1, hown6 x hl hx.2⟩) h.kids), fun b hb hbt => ?_, by omega, hlt⟩
  · rw [List.length_append]
    exact own_keep hv6 (fun b hb => hg7.block b (hv6.lt b hb).2 (by intro e; injection e with e; have := (hv6.lt b hb).1; omega))
  · rw [hgx b (by omega) hbt (fun e => by have := (hnb b e).1; omega)]
    exact h.same b hb hbt
theorem OutZ.done {w3 wr : World} {ob : Nat} {P : Nat → Prop} {t : Lm} {z : Value} {ys : List Value} {kd nm : Int} (h : OutZ w3 wr ob kd nm P t.kids z ys) : LcIn wr (fun x => (P x ∧ x < ob) ∨ w3.heap.size ≤ x) t z :=
  LcIn.of_row (B := w3.heap.size) (ys := ys) h.own (LcsIn.keep (Nat.le_refl _) (fun _ _ _ => rfl) (fun x hx _ => hx.1) h.kids) (fun g e => .inr (h.own.lt g e).1)
/-- What is old, or lies behind a point that is new, is no block of the row. -/
theorem OutZ.part {w3 wr w' : World} {ob N : Nat} {kd nm : Int} {P Q : Nat → Prop} {As : List Lm} {z z1 : Value} {ys : List Value} {T : Lm} (h : OutZ w3 wr ob kd nm P As z ys) (hN : wr.heap.size ≤ N) (hT : LcIn w' Q T z1) (hQ : ∀ x, Q x → x < w'.heap.size → (P x ∧ x < ob) ∨ N ≤ x) : LcIn w' (OutP w3 ob P z) T z1 := by
  refine LcIn.mono (fun x hx hl => ?_) hT
  have hs := h.size
  have hlt := h.lt
  have hnb : ∀ b, z.ownBlock = some b → w3.heap.size ≤ b ∧ b < wr.heap.size := fun b hb => h.own.lt b hb
  rcases hQ x hx hl with h1 | h1
  · exact ⟨.inl h1, fun e => by have := hnb x e; omega⟩
  · exact ⟨.inr (by omega), fun e => by have := hnb x e; omega⟩
theorem res_lc_tmp {fn : Func} {x u : Tmp} (h : fn.results = #[.cell x 75, .tmp u]) (tmps : Array Value) (w : World) (b : Nat) (k n : Int) (z v : Value)
    (hp : tmps.getD x undef = .pointer (some ⟨b, 0, none⟩)) (hv : tmps.getD u undef = v) (hN : RowAt w b 75 (lcC k n z)) : (results fn tmps).run Try.prog w = .ok (.tuple #[.agg (lcC k n z), v]) w := by
  rw [results_cell_tmp h, hp, hv]
  simp only [asAddr, Sem.run_pure, Result.andThen, run_loadVar_row w b 75 75 (lcC k n z) (0, 0) _ hN Try.underlying75 rfl zero_lcT.2]
end Go.Proofs.Ytnnhedncdpfiaaa.CB

/-
  What replaced of the program makes of a tree: anew, with what a function gives in the place of each variable.
-/
namespace Go.Proofs.Ytnnhedncdpfiaaa.CB
open Go.RowKit
set_option linter.unusedVariables false

def mapV (f : Leaf → Nat → Lm) : Lm → Nat → Lm
  | .var n, m => f n m
  | .app s t, m => .app (mapV f s m) (mapV f t m)
theorem mapV_node (f : Leaf → Nat → Lm) (t : Lm) (m : Nat) (h : t.kids ≠ []) : nodeOf t.kd t.nm (t.kids.map fun s => mapV f s (m + t.lams)) = some (mapV f t m) := by
  cases t with
  | var n => exact absurd rfl h
  | app s t => simp [Lm.kids, Lm.kd, Lm.nm, Lm.lams, nodeOf, mapV]
theorem mapV_kid (f : Leaf → Nat → Lm) {t s : Lm} (m : Nat) (h : s ∈ t.kids) : (mapV f s (m + t.lams)).sz < (mapV f t m).sz := by
  cases t with
  | var n => simp [Lm.kids] at h
  | app p q => simp [Lm.kids] at h; rcases h with rfl | rfl <;> simp [Lm.lams, mapV, Lm.sz] <;> omega
/-- Variables that are far from int's ends. -/
def Lm.bd : Lm → Prop
  | .var n => -1000000 ≤ n.nm ∧ n.nm ≤ 1000000
  | .app s t => s.bd ∧ t.bd
theorem Lm.bd_kid {t s : Lm} (h : t.bd) (hs : s ∈ t.kids) : s.bd := by
  cases t with
  | var n => simp [Lm.kids] at hs
  | app p q => simp [Lm.kids] at hs; rcases hs with rfl | rfl; exact h.1; exact h.2
theorem Lm.ok_bd : ∀ {t : Lm}, t.ok = true → t.bd
  | .var n, h => by
    cases n with
    | v n => simp [Lm.ok, Leaf.ok] at h; exact ⟨by simp only [Leaf.nm]; omega, by simp only [Leaf.nm]; omega⟩
    | s => exact ⟨by simp [Leaf.nm], by simp [Leaf.nm]⟩
    | k => exact ⟨by simp [Leaf.nm], by simp [Leaf.nm]⟩
    | i => exact ⟨by simp [Leaf.nm], by simp [Leaf.nm]⟩
  | .app s t, h => by simp only [Lm.ok, Bool.and_eq_true] at h; exact ⟨Lm.ok_bd h.1, Lm.ok_bd h.2⟩
/-- What is asked of the function. -/
def LeafOk (w0 : World) (Q0 : Nat) (lf : Nat) (lb : Array Value) (f : Leaf → Nat → Lm) : Prop := ∀ (n : Leaf) (b m : Nat) (w : World), Below w0.heap.size w0 w → TrIn w (fun x => x < Q0) (.var n) b → (f n m).sz ≤ 1000000 → m ≤ 1000000 → -1000000 ≤ n.nm → n.nm ≤ 1000000 →
    Calls Try.prog lf (#[.pointer (some ⟨b, 0, none⟩), .int .i64 (m : Int)] ++ lb) w fun e w' => (∃ b', e = .returned (.pointer (some ⟨b', 0, none⟩)) ∧ TrIn w' (fun x => x < Q0 ∨ w.heap.size ≤ x) (f n m) b') ∧ Below w.heap.size w w'
def RepC (w0 : World) (Q0 : Nat) (lf : Nat) (lb : Array Value) (f : Leaf → Nat → Lm) (N : Nat) : Prop := ∀ (t : Lm), t.sz ≤ N → ∀ (b m : Nat) (w : World), Below w0.heap.size w0 w → TrIn w (fun x => x < Q0) t b → (mapV f t m).sz ≤ 1000000 → m + t.sz ≤ 1000000 → t.bd →
    Calls Try.prog 56 #[.pointer (some ⟨b, 0, none⟩), .int .i64 (m : Int), .func (.func lf) #[] lb] w fun e w' => (∃ b', e = .returned (.pointer (some ⟨b', 0, none⟩)) ∧ TrIn w' (fun x => x < Q0 ∨ w.heap.size ≤ x) (mapV f t m) b') ∧ Below w.heap.size w w'

set_option maxHeartbeats 8000000 in
set_option maxRecDepth 100000 in
theorem replaced_step (w0 : World) (Q0 : Nat) (hQ0 : Q0 ≤ w0.heap.size) (lf : Nat) (lb : Array Value) (f : Leaf → Nat → Lm) (eg : ∀ args w, (callFunc lf args).run Try.prog w = .ok (.enter lf args) w) (hleaf : LeafOk w0 Q0 lf lb f) (N : Nat) (IH : ∀ n, n < N → RepC w0 Q0 lf lb f n) : RepC w0 Q0 lf lb f N := by
  intro t ht b m w hB0 hT hsz hm hbd
  have HIH := hideT' IH
  have HT := hideT' hT
  have HTN := hideT' ht
  have HB0 := hideT' hB0
  have HBD := hideT' hbd
  obtain ⟨o, c, hpc, _⟩ := hT.parts
  obtain ⟨u, k0, k1, k2⟩ := hT.own3
  have hbl := hT.lt
  have hws := hB0.size
  clear IH ht
  cases hkk : t.kids with
  | nil =>
    cases t with
    | app p q => simp [Lm.kids] at hkk
    | var n =>
      have HL := hideT' (hleaf n b m w hB0 hT hsz (by simp only [Lm.sz] at hm; omega) hbd.1 hbd.2)
      simp only [Lm.kids, List.length_nil] at hpc
      clear hT hB0 k0 k1 k2 hkk hbd
      go_enter Try.func56, Try.ntmps56
      go_wp2_with fail
      refine HL.out.mono ?_
      rintro e w2 ⟨⟨b', rfl, hT2⟩, hB2⟩
      have HF := hideT' (And.intro hT2 hB2)
      clear hT2 hB2
      go_wp2
      go_ret
      exact ⟨⟨b', rfl, HF.out.1⟩, HF.out.2⟩
  | cons T0 Ts0 =>
    have hne : t.kids ≠ [] := by rw [hkk]; simp
    obtain ⟨q, hq⟩ : ∃ q, q = t.kids.length := ⟨_, rfl⟩
    have hq2 : q ≤ 2 := by rw [hq]; cases t <;> simp [Lm.kids]
    have hq1 : 1 ≤ q := by rw [hq, hkk]; simp
    rw [← hq] at hpc
    have hqz : ¬ (q : Int) = 0 := by omega
    have hqb : ((q : Int) == 0) = false := by simp only [beq_eq_false_iff_ne]; exact hqz
    have HQ := hideT' hq
    have HNE := hideT' hne
    have hmk := make_ptree q (by omega)
    clear hT hB0 hkk hq hne hbd
    have HNEW : Hid (RecAt (w.alloc (.cells ((List.replicate q (none : Option Nat)).flatMap ptrL).toArray 68)) w.heap.size 68 ptrL (List.replicate q none)) := RowAt.new _ _ _
    have HBN : Hid (Below w.heap.size w (w.alloc (.cells ((List.replicate q (none : Option Nat)).flatMap ptrL).toArray 68))) := (Below.refl _ _).alloc (Nat.le_refl _) _
    go_enter Try.func56, Try.ntmps56
    go_wp2_with fail
    clear hmk
    obtain ⟨G, hG⟩ : ∃ G, G = w.heap.size := ⟨_, rfl⟩
    have HG := hideT' hG
    rw [← hG]
    clear hG
    go_loopg [31] q (fun gg i wr => ∃ (As Bs : List Lm) (ks : List (Nat × Lm)), gg = Bs.length ∧ Hid (t.kids = As ++ Bs) ∧ i = .int .i64 (As.length : Int) ∧ Hid (ks.map Prod.snd = As.map (fun s => mapV f s (m + t.lams)) ∧ RecAt wr G 68 ptrL (ks.map (fun p => some p.1) ++ List.replicate (q - As.length) none) ∧ (∀ p ∈ ks, TrIn wr (fun x => x < Q0 ∨ G < x) p.2 p.1) ∧ Below w.heap.size w wr))
    case atStart => exact ⟨[], t.kids, [], by rw [HQ.out], rfl, rfl, ⟨rfl, by rw [HG.out]; simpa using HNEW.out, by simp, HBN.out⟩⟩
    case round =>
      obtain ⟨As, Bs, ks, hgg, HA, rfl, HS⟩ := hrel
      obtain ⟨j, hj⟩ : ∃ j, j = As.length := ⟨_, rfl⟩
      rw [← hj] at HS ⊢
      have HJ := hideT' hj
      clear hj
      obtain ⟨hks, hR, hTk, hB⟩ := HS.out
      have hkl : ks.length = j := by rw [HJ.out, ← List.length_map (f := Prod.snd), hks, List.length_map]
      have hTr : TrIn wr (fun x => x < Q0) t b := TrIn.keep (w := w) hB.size (fun x hx hl => hB.block x hl) (fun _ h _ => h) HT.out
      have hBr : Below w0.heap.size w0 wr := HB0.out.trans (hB.mono hws)
      have hGw : G < wr.heap.size := hR.lt
      cases Bs with
      | nil =>
        have hjm : j = q := by rw [HJ.out, HQ.out, HA.out]; simp
        have hnl : ¬ (j : Int) < (q : Int) := by omega
        have HKids : Hid (KidsAt wr (fun x => x < Q0 ∨ G ≤ x) (.slice (some ⟨G, 0, none⟩) q q) ks) := by
          refine ⟨_, q, by rw [hkl, hjm], fun hn => ⟨G, rfl, ⟨hR.lt, .inr (Nat.le_refl _)⟩, fun i p hi => ?_⟩, fun p hp => TrIn.mono (fun x hx _ => hx.imp id Nat.le_of_lt) (hTk p hp)⟩
          have hil : i < ks.length := (List.getElem?_eq_some_iff.1 hi).1
          have := hR.cell (c := 1) ptrL_len i 0 (by rw [List.length_append, List.length_map]; omega) (by decide)
          rw [Nat.mul_one, Nat.add_zero] at this
          rw [this]
          have e : (ks.map (fun p : Nat × Lm => some p.1) ++ List.replicate (q - j) none).getD i default = some p.1 := by
            rw [List.getD, List.getElem?_append_left (by rw [List.length_map]; exact hil), List.getElem?_map, hi]
            rfl
          rw [e]; rfl
        have HTN2 : Hid (nodeOf t.kd t.nm (ks.map Prod.snd) = some (mapV f t m)) := by
          unfold Hid
          rw [hks]
          have := mapV_node f t m HNE.out
          rw [HA.out, List.append_nil] at this
          exact this
        have HPS : Hid (∀ p ∈ ptsOf ks, p.2.1 ≤ 1000000 ∧ p.2.2 ≤ 1000000) := by
          intro p hp
          obtain ⟨y, hy, rfl⟩ := List.mem_map.1 hp
          have h1 : y.2 ∈ ks.map Prod.snd := List.mem_map_of_mem hy
          rw [hks] at h1
          obtain ⟨s, hs, he⟩ := List.mem_map.1 h1
          have h2 := mapV_kid f m (t := t) (s := s) (by rw [HA.out]; simpa using hs)
          have h3 := y.2.dp_sz
          rw [he] at h2
          simp only; omega
        have e0 : wr.cell? ⟨b, 0, none⟩ = some (.int .i64 t.kd) := by rw [hB.cell (p := ⟨b, 0, none⟩) hbl]; exact k0
        have e1 : wr.cell? ⟨b, 1, none⟩ = some (.int .i64 t.nm) := by rw [hB.cell (p := ⟨b, 1, none⟩) hbl]; exact k1
        have e2 : wr.cell? ⟨b, 2, none⟩ = some (.int .i64 u) := by rw [hB.cell (p := ⟨b, 2, none⟩) hbl]; exact k2
        have HBB := hideT' hB
        have HKL := hideT' hkl
        have hbr : b < wr.heap.size := by have := hB.size; omega
        clear hks hR hTk hB hTr hBr hkl HS k0 k1 k2 hpc hgg
        go_wp2_with fail
        refine (treeOf_any t.kd t.nm u _ (ptsOf ks) wr HKids.out.pts (by unfold ptsOf; rw [List.length_map, HKL.out]; omega) HPS.out).mono ?_
        intro e w2 hN
        obtain ⟨b', rfl, hbb, hTr, hB2⟩ := treeNew_at HKids.out HTN2.out hN
        have HF : Hid (TrIn w2 (fun x => x < Q0 ∨ w.heap.size ≤ x) (mapV f t m) b' ∧ Below w.heap.size w w2) := ⟨TrIn.mono (fun x hx _ => by have := HG.out; have := HBB.out.size; rcases hx with (hx | hx) | hx <;> omega) hTr, HBB.out.trans (hB2.mono HBB.out.size)⟩
        clear hN hTr hB2
        go_wp2
        go_ret
        exact ⟨⟨b', rfl, HF.out.1⟩, HF.out.2⟩
      | cons T Bs =>
        have hil : (j : Int) < (q : Int) := by rw [HQ.out, HA.out, List.length_append, ← HJ.out]; simp; omega
        have hkj : t.kids[j]? = some T := by rw [HA.out, HJ.out]; simp
        have hTm : T ∈ t.kids := List.mem_of_getElem? hkj
        obtain ⟨o', c', hpc', hkid⟩ := hTr.parts
        have hoo : o' = o := by
          have h1 : wr.cell? ⟨b, 3, none⟩ = w.cell? ⟨b, 3, none⟩ := hB.cell (p := ⟨b, 3, none⟩) hbl
          rw [hpc', hpc] at h1
          injection h1 with h1
          injection h1 with h1
        subst hoo
        obtain ⟨g, b1, ho', hg, _, hcb1, hT1⟩ := hkid j T hkj
        subst ho'
        have hTs := Lm.kids_lt hTm
        have hms := mapV_kid f m hTm
        have hla : t.lams ≤ 1 := by cases t <;> simp [Lm.lams]
        have HCALL := hideT' (HIH.out T.sz (by have := HTN.out; omega) T (Nat.le_refl _) b1 (m + t.lams) wr hBr hT1 (by omega) (by omega) (Lm.bd_kid HBD.out hTm))
        have HLM := hideT' (lambdasOf_any t b _ wr hTr)
        have hcast : ((m + t.lams : Nat) : Int) = (m : Int) + (t.lams : Int) := by omega
        rw [hcast] at HCALL
        have HSS := hideT' (And.intro hks (And.intro hTk (And.intro hB hkl)))
        have HR := hideT' hR
        clear hcast hks hTk hB hTr hBr hpc' hkid hT1 hkj hTm hR HS hkl
        go_wp2_with fail
        refine HLM.out.mono ?_
        rintro e w4 ⟨rfl, hw4⟩
        subst hw4
        go_wp2_with fail
        refine HCALL.out.mono ?_
        rintro e w5 ⟨⟨b', rfl, hT5⟩, hB5⟩
        obtain ⟨hks, hTk, hB, hkl⟩ := HSS.out
        have hR5 : RecAt w5 G 68 ptrL (ks.map (fun p => some p.1) ++ List.replicate (q - j) none) := HR.out.below hB5 hGw
        have HT5 := hideT' hT5
        have HB5 := hideT' hB5
        have HSL : Hid (j < (ks.map (fun p : Nat × Lm => some p.1) ++ List.replicate (q - j) none).length) := by unfold Hid; rw [List.length_append, List.length_map, List.length_replicate, hkl]; omega
        clear hT5 hB5 hks hTk hB hkl
        go_wp2_with (refine store_rec1 rfl 68 _ _ rfl rfl (fun b : Option Nat => .pointer (b.map fun b => ⟨b, 0, none⟩)) (fun _ => rfl) one_ptree G j (some b') rfl rfl _ hR5 HSL.out ?_; intro w6 hR6 hg6 hs6; have HG6 := hideT' hg6; have HR6 := hideT' hR6; clear hg6 hR6)
        obtain ⟨hks, hTk, hB, hkl⟩ := HSS.out
        have HEND : Hid ((ks ++ [(b', mapV f T (m + t.lams))]).map Prod.snd = (As ++ [T]).map (fun s => mapV f s (m + t.lams)) ∧ RecAt w6 G 68 ptrL ((ks ++ [(b', mapV f T (m + t.lams))]).map (fun p => some p.1) ++ List.replicate (q - (As ++ [T]).length) none) ∧ (∀ p ∈ ks ++ [(b', mapV f T (m + t.lams))], TrIn w6 (fun x => x < Q0 ∨ G < x) p.2 p.1) ∧ Below w.heap.size w w6) := by
          have hGw0 : ¬ (G < Q0 ∨ G < G) := by have := HG.out; omega
          refine ⟨by rw [List.map_append, List.map_append, hks]; rfl, ?_, fun p hp => ?_, ?_⟩
          · have e1 : (ks.map (fun p : Nat × Lm => some p.1) ++ List.replicate (q - j) none).set j (some b') = (ks ++ [(b', mapV f T (m + t.lams))]).map (fun p : Nat × Lm => some p.1) ++ List.replicate (q - (As ++ [T]).length) none := by
              rw [List.set_append_right _ _ (by rw [List.length_map, hkl]; exact Nat.le_refl _), List.length_map, hkl, Nat.sub_self, List.length_append, ← HJ.out, List.length_singleton]
              obtain ⟨y, hy⟩ : ∃ y, q - j = y + 1 := ⟨q - j - 1, by omega⟩
              rw [hy, show q - (j + 1) = y by omega, List.replicate_succ, List.set_cons_zero, List.map_append]
              simp
            have h3 := HR6.out
            rw [e1] at h3
            exact h3
          · rcases List.mem_append.1 hp with hp | hp
            · exact TrIn.grown HG6.out hGw0 (TrIn.below HB5.out (hTk p hp))
            · rw [List.mem_singleton] at hp
              subst hp
              exact TrIn.grown HG6.out hGw0 (TrIn.mono (fun x hx _ => hx.imp id (fun h => Nat.lt_of_lt_of_le hGw h)) HT5.out)
          · exact (hB.trans (HB5.out.mono hB.size)).grown HG6.out (by have := hB.size; have := HB5.out.size; omega) (by intro k hk; cases hk; rw [HG.out]; exact Nat.le_refl _)
        have HA2 : Hid (t.kids = (As ++ [T]) ++ Bs) := by unfold Hid; rw [HA.out]; simp
        clear hks hTk hB hkl
        go_roundg Bs.length
        case measure => first | omega | (rw [hgg]; simp)
        case rel => exact ⟨As ++ [T], Bs, ks ++ [(b', mapV f T (m + t.lams))], rfl, HA2, by rw [List.length_append, ← HJ.out]; go_num, HEND⟩
theorem replaced_any (w0 : World) (Q0 : Nat) (hQ0 : Q0 ≤ w0.heap.size) (lf : Nat) (lb : Array Value) (f : Leaf → Nat → Lm) (eg : ∀ args w, (callFunc lf args).run Try.prog w = .ok (.enter lf args) w) (hleaf : LeafOk w0 Q0 lf lb f) : ∀ N, RepC w0 Q0 lf lb f N := by
  intro N
  induction N using Nat.strongRecOn with
  | _ N IH => exact replaced_step w0 Q0 hQ0 lf lb f eg hleaf N IH
end Go.Proofs.Ytnnhedncdpfiaaa.CB

/-
  What ldIs and ldPut of the model answer.
-/
namespace Go.Proofs.Ytnnhedncdpfiaaa.CB
open Go.RowKit BL
set_option linter.unusedVariables false

/-- Whether it is a variable. -/
def Lm.isV (t : Lm) (x : Int) : Bool := match t with
  | .var (.v n) => n == x
  | _ => false
def Lm.put (t : Lm) (x : Int) (s : Lm) : Lm := match t with
  | .var c => if (Lm.var c).isV x then s else .var c
  | .app a b => .app (a.put x s) (b.put x s)
theorem isV_kn (t : Lm) (x : Int) : t.isV x = ((t.kd == 1) && (t.nm == x)) := by
  cases t with
  | var c => cases c <;> simp [Lm.isV, Lm.kd, Lm.nm, Leaf.kd, Leaf.nm]
  | app a b => simp [Lm.isV, Lm.kd]
theorem Lm.kids_lt' {t s : Lm} (h : s ∈ t.kids) : s.sz < t.sz := Lm.kids_lt h
set_option maxHeartbeats 1000000 in
theorem ldIs_any (t : Lm) (z : Value) (x : Int) (P : Nat → Prop) (w : World) (h : LcIn w P t z) :
    Calls Try.prog 75 #[.agg (lcC t.kd t.nm z), .int .i64 x] w fun e w' => e = .returned (.bool (t.isV x)) ∧ Below w.heap.size w w' := by
  have hz := zero_lcT.1
  obtain ⟨oz, cz, rfl⟩ := h.form
  obtain ⟨r, hr⟩ : ∃ r, r = t.isV x := ⟨_, rfl⟩
  rw [← hr]
  rw [isV_kn] at hr
  obtain ⟨kd, hkd⟩ : ∃ kd, kd = t.kd := ⟨_, rfl⟩
  obtain ⟨nm, hnm⟩ : ∃ nm, nm = t.nm := ⟨_, rfl⟩
  obtain ⟨q, hq⟩ : ∃ q, q = t.kids.length := ⟨_, rfl⟩
  rw [← hkd, ← hnm] at hr ⊢
  rw [← hq]
  clear hkd hnm hq h
  unfold lcC
  have HB : Hid (Below w.heap.size w (w.alloc (.cells #[.int .i64 kd, .int .i64 nm, .slice oz q cz] 75))) := (Below.refl _ _).alloc (Nat.le_refl _) _
  by_cases h1 : kd = 1
  · subst h1
    have HR : Hid (r = (nm == x)) := by unfold Hid; rw [hr]; simp
    clear hr
    go_enter Try.func75, Try.ntmps75
    go_wp2
    go_ret
    exact ⟨by rw [HR.out]; rfl, HB.out⟩
  · have HR : Hid (r = false) := by unfold Hid; rw [hr]; simp [h1]
    have h1b : (kd == 1) = false := by simp [h1]
    clear hr
    go_enter Try.func75, Try.ntmps75
    go_wp2
    go_ret
    exact ⟨by rw [HR.out]; rfl, HB.out⟩
def PtC (x : Int) (s : Lm) (N : Nat) : Prop := ∀ (t : Lm), t.sz ≤ N → ∀ (z zs : Value) (P : Nat → Prop) (w : World), LcIn w P t z → LcIn w P s zs →
    Calls Try.prog 55 #[.agg (lcC t.kd t.nm z), .int .i64 x, .agg (lcC s.kd s.nm zs)] w fun e w' => (∃ z', e = .returned (.agg (lcC (t.put x s).kd (t.put x s).nm z')) ∧ LcIn w' (fun y => P y ∨ w.heap.size ≤ y) (t.put x s) z') ∧ Below w.heap.size w w'
theorem put_kids (x : Int) (s t : Lm) (h : t.isV x = false) : (t.put x s).kids = t.kids.map (fun t => t.put x s) ∧ (t.put x s).kd = t.kd ∧ (t.put x s).nm = t.nm := by
  cases t with
  | var c => simp [Lm.put, h, Lm.kids, Lm.kd, Lm.nm]
  | app a b => simp [Lm.put, Lm.kids, Lm.kd, Lm.nm]
theorem put_is (x : Int) (s t : Lm) (h : t.isV x = true) : t.put x s = s := by
  cases t with
  | var c => simp [Lm.put, h]
  | app a b => simp [Lm.isV] at h
set_option maxHeartbeats 8000000 in
set_option maxRecDepth 100000 in
theorem ldPut_step (x : Int) (s : Lm) (N : Nat) (IH : ∀ n, n < N → PtC x s n) : PtC x s N := by
  intro t ht z zs P w hz hzs
  have hz0 := zero_lcT.1
  obtain ⟨oz, cz, hzz⟩ := hz.form
  subst hzz
  obtain ⟨os, cs, hzzs⟩ := hzs.form
  subst hzzs
  have HIH := hideT' IH
  have HTN := hideT' ht
  have HZ := hideT' hz
  have HZS := hideT' hzs
  obtain ⟨W, hWd⟩ : ∃ W, W = ((w.alloc (.cells #[.int .i64 t.kd, .int .i64 t.nm, .slice oz t.kids.length cz] 75)).alloc (.cells #[.int .i64 s.kd, .int .i64 s.nm, .slice os s.kids.length cs] 75)).alloc (.cells #[.int .i64 0, .int .i64 0, .slice none 0 0] 75) := ⟨_, rfl⟩
  have hBW : Below w.heap.size w W := by rw [hWd]; exact (((Below.refl _ _).alloc (Nat.le_refl _) _).alloc (by simp) _).alloc (by simp; omega) _
  have hWs : w.heap.size + 3 ≤ W.heap.size := by rw [hWd]; simp
  have hR0 : RowAt W w.heap.size 75 #[.int .i64 t.kd, .int .i64 t.nm, .slice oz t.kids.length cz] := by rw [hWd]; exact RowAt.old (RowAt.old (RowAt.new _ _ _) _) _
  have hR1 : RowAt W (w.heap.size + 1) 75 #[.int .i64 s.kd, .int .i64 s.nm, .slice os s.kids.length cs] := by
    rw [hWd]
    have := RowAt.new (w.alloc (.cells #[.int .i64 t.kd, .int .i64 t.nm, .slice oz t.kids.length cz] 75)) 75 #[.int .i64 s.kd, .int .i64 s.nm, .slice os s.kids.length cs]
    rw [World.size_alloc] at this
    exact RowAt.old this _
  have hR2 : RowAt W (w.heap.size + 1 + 1) 75 #[.int .i64 0, .int .i64 0, .slice none 0 0] := by
    rw [hWd]
    have := RowAt.new ((w.alloc (.cells #[.int .i64 t.kd, .int .i64 t.nm, .slice oz t.kids.length cz] 75)).alloc (.cells #[.int .i64 s.kd, .int .i64 s.nm, .slice os s.kids.length cs] 75)) 75 #[.int .i64 0, .int .i64 0, .slice none 0 0]
    rwa [World.size_alloc, World.size_alloc] at this
  have HIS := hideT' (ldIs_any t (.slice oz t.kids.length cz) x P W (LcIn.keep (w := w) hBW.size (fun y _ hl => hBW.block y hl) (fun _ h _ => h) hz))
  obtain ⟨r, hr⟩ : ∃ r, r = t.isV x := ⟨_, rfl⟩
  rw [← hr] at HIS
  obtain ⟨kd, hkd⟩ : ∃ kd, kd = t.kd := ⟨_, rfl⟩
  obtain ⟨nm, hnm⟩ : ∃ nm, nm = t.nm := ⟨_, rfl⟩
  obtain ⟨q, hq⟩ : ∃ q, q = t.kids.length := ⟨_, rfl⟩
  have hq2 : q ≤ 2 := by rw [hq]; cases t <;> simp [Lm.kids]
  rw [← hkd, ← hnm, ← hq] at hWd hR0 HIS
  rw [← hq] at HZ
  rw [← hkd, ← hnm, ← hq]
  have HKN := hideT' (And.intro hkd (And.intro hnm hq))
  have HRV := hideT' hr
  have HRS := hideT' (And.intro hR0 (And.intro hR1 hR2))
  have HBW := hideT' hBW
  have HWS := hideT' hWs
  clear IH ht hz hzs hkd hnm hq hr hR0 hR1 hR2 hBW hWs
  unfold lcC at HIS ⊢
  go_enter Try.func55, Try.ntmps55
  go_wp2_with fail
  rw [← hWd]
  refine HIS.out.mono ?_
  rintro e W1 ⟨rfl, hB1⟩
  have hs1 := hB1.size
  have HR1 : Hid (RowAt W1 w.heap.size 75 #[.int .i64 kd, .int .i64 nm, .slice oz q cz] ∧ RowAt W1 (w.heap.size + 1) 75 #[.int .i64 s.kd, .int .i64 s.nm, .slice os s.kids.length cs] ∧ RowAt W1 (w.heap.size + 1 + 1) 75 #[.int .i64 0, .int .i64 0, .slice none 0 0]) := ⟨HRS.out.1.below hB1 HRS.out.1.lt, HRS.out.2.1.below hB1 HRS.out.2.1.lt, HRS.out.2.2.below hB1 HRS.out.2.2.lt⟩
  have HBW1 : Hid (Below w.heap.size w W1) := HBW.out.trans (hB1.mono HBW.out.size)
  have hw3 : w.heap.size + 3 ≤ W1.heap.size := by have := HWS.out; omega
  clear hB1 hWd hs1
  cases r with
  | true =>
    have HE : Hid (t.put x s = s) := put_is x s t HRV.out.symm
    go_wp2_with (first | (refine wpList_load_row rfl 75 _ rfl (w.heap.size + 1) rfl 75 #[.int .i64 s.kd, .int .i64 s.nm, .slice os s.kids.length cs] (0, 0) _ HR1.out.2.1 Try.underlying75 rfl zero_lcT.2 ?_) | (refine store_3 rfl 75 _ _ rfl rfl zero_lcT.2 (w.heap.size + 1 + 1) (lcC s.kd s.nm (.slice os s.kids.length cs)) rfl (lcC_one _ _ _ rfl) rfl rfl _ rfl HR1.out.2.2 ?_; intro w5 hR5 hg5 hs5))
    refine bodyPost_ret (v := .agg (lcC s.kd s.nm (.slice os s.kids.length cs))) (results_cell_row Try.results55 _ _ (w.heap.size + 1 + 1) 75 (lcC s.kd s.nm (.slice os s.kids.length cs)) (0, 0) _ rfl hR5 Try.underlying75 rfl zero_lcT.2) rfl ⟨⟨.slice os s.kids.length cs, by rw [HE.out]; rfl, ?_⟩, HBW1.out.grown hg5 (by omega) (by intro k hk; cases hk; omega)⟩
    rw [HE.out]
    refine LcIn.keep (w := w) (by omega) (fun y hy hl => ?_) (fun y hy _ => .inl hy) HZS.out
    rw [hg5.block y (by omega) (by intro e; injection e with e; omega)]
    exact HBW1.out.block y hl
  | false =>
    obtain ⟨e1, e2, e3⟩ := put_kids x s t HRV.out.symm
    have HSK : Hid ((t.put x s).kids = t.kids.map (fun t => t.put x s) ∧ (t.put x s).kd = kd ∧ (t.put x s).nm = nm) := ⟨e1, by rw [e2, HKN.out.1], by rw [e3, HKN.out.2.1]⟩
    clear e1 e2 e3
    obtain ⟨W3, hW3⟩ : ∃ W3, W3 = W1.alloc (.cells #[.int .i64 kd, .int .i64 nm, .slice none 0 0] 75) := ⟨_, rfl⟩
    obtain ⟨ob, hob⟩ : ∃ ob, ob = W1.heap.size := ⟨_, rfl⟩
    have HOB : Hid (w.heap.size + 3 ≤ ob) := by unfold Hid; omega
    have hRo : RowAt W3 ob 75 (lcC kd nm (.slice none 0 0)) := by rw [hW3, hob]; exact RowAt.new W1 _ _
    have HB3 : Hid (Below w.heap.size w W3) := by rw [hW3]; exact HBW1.out.alloc (by omega) _
    have HR3 : Hid (RowAt W3 w.heap.size 75 #[.int .i64 kd, .int .i64 nm, .slice oz q cz] ∧ RowAt W3 (w.heap.size + 1) 75 #[.int .i64 s.kd, .int .i64 s.nm, .slice os s.kids.length cs] ∧ RowAt W3 (w.heap.size + 1 + 1) 75 #[.int .i64 0, .int .i64 0, .slice none 0 0]) := by rw [hW3]; exact ⟨RowAt.old HR1.out.1 _, RowAt.old HR1.out.2.1 _, RowAt.old HR1.out.2.2 _⟩
    have HOS := hideT' (OutZ.start (P := fun y => P y ∧ y < w.heap.size) hRo)
    have r0 : W1.cell? ⟨w.heap.size, 0, none⟩ = some (.int .i64 kd) := by rw [cell_of_row _ _ _ _ _ _ HR1.out.1]; rfl
    have r1 : W1.cell? ⟨w.heap.size, 1, none⟩ = some (.int .i64 nm) := by rw [cell_of_row _ _ _ _ _ _ HR1.out.1]; rfl
    have r2 : W1.cell? ⟨w.heap.size, 2, none⟩ = some (.slice oz q cz) := by rw [cell_of_row _ _ _ _ _ _ HR1.out.1]; rfl
    have hlt1 : w.heap.size < W1.heap.size := by omega
    clear hRo hw3
    go_wp2_with fail
    rw [← hW3, ← hob]
    clear hW3 hob r0 r1 r2 hlt1
    go_loopg [22] q (fun gg i wr => ∃ (As Bs : List Lm) (z : Value) (ys : List Value), gg = Bs.length ∧ Hid (t.kids = As ++ Bs) ∧ i = .int .i64 (As.length : Int) ∧ Hid (OutZ W3 wr ob kd nm (fun y => P y ∧ y < w.heap.size) (As.map (fun t => t.put x s)) z ys) ∧ Hid (Below w.heap.size w wr))
    case atStart => exact ⟨[], t.kids, .slice none 0 0, [], by rw [HKN.out.2.2], rfl, rfl, HOS, HB3⟩
    case round =>
      obtain ⟨As, Bs, z, ys, hgg, HA, rfl, HO, HB⟩ := hrel
      obtain ⟨j, hj⟩ : ∃ j, j = As.length := ⟨_, rfl⟩
      obtain ⟨ox, cx, hzx⟩ := own_formT HO.out.own
      rw [List.length_map, ← hj] at hzx
      subst hzx
      rw [← hj]
      have HJ := hideT' hj
      clear hj
      cases Bs with
      | nil =>
        have hjm : j = q := by rw [HJ.out, HKN.out.2.2, HA.out]; simp
        have hnl : ¬ (j : Int) < (q : Int) := by omega
        have HEK : Hid ((t.put x s).kids = As.map (fun t => t.put x s)) := by unfold Hid; rw [HSK.out.1, HA.out]; simp
        have hRz : RowAt wr (w.heap.size + 1 + 1) 75 #[.int .i64 0, .int .i64 0, .slice none 0 0] := HO.out.rowOf (by have := HOB.out; omega) HR3.out.2.2
        have hRo : RowAt wr ob 75 (lcC kd nm (.slice ox j cx)) := HO.out.row
        clear hgg hjm
        go_wp2_with (first | (refine wpList_load_row rfl 75 _ rfl ob rfl 75 (lcC kd nm (.slice ox j cx)) (0, 0) _ hRo Try.underlying75 rfl zero_lcT.2 ?_) | (refine store_3 rfl 75 _ _ rfl rfl zero_lcT.2 (w.heap.size + 1 + 1) (lcC kd nm (.slice ox j cx)) rfl (lcC_one _ _ _ rfl) rfl rfl _ rfl hRz ?_; intro w5 hR5 hg5 hs5))
        have hobl := HO.out.lt
        have hoh := HOB.out
        have hfin : LcIn w5 (fun y => P y ∨ w.heap.size ≤ y) (t.put x s) (.slice ox j cx) := by
          have ho := HO.out
          rw [← HEK.out] at ho
          refine LcIn.keep (w := wr) (by omega) (fun y hy hl => hg5.block y hl (by intro e; injection e with e; rcases hy with hy | hy <;> omega)) (fun y hy _ => ?_) ho.done
          rcases hy with hy | hy
          · exact .inl hy.1.1
          · exact .inr (by omega)
        exact bodyPost_ret (v := .agg (lcC kd nm (.slice ox j cx))) (results_cell_row Try.results55 _ _ (w.heap.size + 1 + 1) 75 (lcC kd nm (.slice ox j cx)) (0, 0) _ rfl hR5 Try.underlying75 rfl zero_lcT.2) rfl ⟨⟨.slice ox j cx, by rw [HSK.out.2.1, HSK.out.2.2]; rfl, hfin⟩, HB.out.grown hg5 (by have := HB.out.size; omega) (by intro k hk; cases hk; omega)⟩
      | cons T Bs =>
      have hil : (j : Int) < (q : Int) := by rw [HKN.out.2.2, HA.out, List.length_append, ← HJ.out]; simp; omega
      have hkj : t.kids[j]? = some T := by rw [HA.out, HJ.out]; simp
      have hTm : T ∈ t.kids := List.mem_of_getElem? hkj
      have hzr : LcIn wr (fun b => P b ∧ b < w.heap.size) t (.slice oz q cz) := LcIn.keep (w := w) HB.out.size (fun y hy hl => HB.out.block y hl) (fun y hy hl => ⟨hy, hl⟩) HZ.out
      obtain ⟨o', c', e', hpart⟩ := hzr.parts
      injection e' with e1 e2 e3
      subst e1
      clear e2 e3
      obtain ⟨g, z1, hoz, hg, ⟨k0, k1, k2⟩, hz1⟩ := hpart j T hkj
      subst hoz
      have hg1 := hg.1
      obtain ⟨oz1, cz1, hzz1'⟩ := hz1.form
      subst hzz1'
      obtain ⟨W2, hW2⟩ : ∃ W2, W2 = wr.alloc (.cells #[.int .i64 T.kd, .int .i64 T.nm, .slice oz1 T.kids.length cz1] 75) := ⟨_, rfl⟩
      have hB2 : Below wr.heap.size wr W2 := by rw [hW2]; exact (Below.refl _ _).alloc (Nat.le_refl _) _
      have HB2 := hideT' hB2
      have hRo2 : RowAt W2 ob 75 (lcC kd nm (.slice ox j cx)) := HO.out.row.below hB2 HO.out.row.lt
      have hRk2 : RowAt W2 wr.heap.size 75 #[.int .i64 T.kd, .int .i64 T.nm, .slice oz1 T.kids.length cz1] := by rw [hW2]; exact RowAt.new wr _ _
      have hRs2 : RowAt W2 (w.heap.size + 1) 75 #[.int .i64 s.kd, .int .i64 s.nm, .slice os s.kids.length cs] := (HO.out.rowOf (by have := HOB.out; omega) HR3.out.2.1).below hB2 (by have := HO.out.row.lt; have := HOB.out; omega)
      have HCALL : Hid (∀ w', Below W2.heap.size W2 w' → Calls Try.prog 55 #[.agg (lcC T.kd T.nm (.slice oz1 T.kids.length cz1)), .int .i64 x, .agg (lcC s.kd s.nm (.slice os s.kids.length cs))] w' fun e w'' => (∃ z', e = .returned (.agg (lcC (T.put x s).kd (T.put x s).nm z')) ∧ LcIn w'' (fun y => (P y ∧ y < w.heap.size) ∨ w'.heap.size ≤ y) (T.put x s) z') ∧ Below w'.heap.size w' w'') := by
        intro w' hB'
        have hBB : Below wr.heap.size wr w' := hB2.trans (hB'.mono hB2.size)
        have hBC : Below w.heap.size w w' := HB.out.trans (hBB.mono HB.out.size)
        exact HIH.out T.sz (by have := HTN.out; have := Lm.kids_lt hTm; omega) T (Nat.le_refl _) (.slice oz1 T.kids.length cz1) (.slice os s.kids.length cs) (fun y => P y ∧ y < w.heap.size) w' (LcIn.below hBB hz1) (LcIn.keep (w := w) hBC.size (fun y hy hl => hBC.block y hl) (fun y hy hl => ⟨hy, hl⟩) HZS.out)
      have hDW2 : Below W2.heap.size W2 W2.drew := (Below.refl _ _).drew
      clear hzr hpart hz1 hkj hTm hB2
      go_wp2_with fail
      rw [← hW2]
      clear hW2 k0 k1 k2
      refine late_begin [9] (fun w' => RowAt w' ob 75 (lcC kd nm (.slice ox j cx)) ∧ RowAt w' wr.heap.size 75 #[.int .i64 T.kd, .int .i64 T.nm, .slice oz1 T.kids.length cz1] ∧ RowAt w' (w.heap.size + 1) 75 #[.int .i64 s.kd, .int .i64 s.nm, .slice os s.kids.length cs]) (by kernel_rfl) ?_
      have hS : RowAt W2.drew ob 75 (lcC kd nm (.slice ox j cx)) ∧ RowAt W2.drew wr.heap.size 75 #[.int .i64 T.kd, .int .i64 T.nm, .slice oz1 T.kids.length cz1] ∧ RowAt W2.drew (w.heap.size + 1) 75 #[.int .i64 s.kd, .int .i64 s.nm, .slice os s.kids.length cs] := ⟨hRo2, hRk2, hRs2⟩
      refine late_val 0 (some 26) rfl rfl (by kernel_rfl) (by kernel_rfl) (by kernel_rfl) [1, 7, 9] (by kernel_rfl) noPanic_put rfl (.pointer (some ⟨ob, 2, none⟩)) (fun _ _ => by go_simp) hS ?_
      simp only [Act.put, List.setIfInBounds_toArray, List.set_cons_zero, List.set_cons_succ]
      refine late_val 1 (some 27) rfl rfl (by kernel_rfl) (by kernel_rfl) (by kernel_rfl) [7, 9] (by kernel_rfl) noPanic_put rfl (.slice ox j cx) (fun w' h => by have q2 : w'.cell? ⟨ob, 2, none⟩ = some (.slice ox j cx) := (by rw [cell_of_row w' _ _ _ _ _ h.1]; rfl); go_simp) hS ?_
      simp only [Act.put, List.setIfInBounds_toArray, List.set_cons_zero, List.set_cons_succ]
      refine late_val 2 (some 28) rfl rfl (by kernel_rfl) (by kernel_rfl) (by kernel_rfl) [5, 6, 7, 9] (by kernel_rfl) noPanic_put rfl (.agg (lcC T.kd T.nm (.slice oz1 T.kids.length cz1))) (fun w' h => by unfold lcC; have q0 : w'.cell? ⟨wr.heap.size, 0, none⟩ = some (.int .i64 T.kd) := (by rw [cell_of_row w' _ _ _ _ _ h.2.1]; rfl); have q1 : w'.cell? ⟨wr.heap.size, 1, none⟩ = some (.int .i64 T.nm) := (by rw [cell_of_row w' _ _ _ _ _ h.2.1]; rfl); have q2 : w'.cell? ⟨wr.heap.size, 2, none⟩ = some (.slice oz1 T.kids.length cz1) := (by rw [cell_of_row w' _ _ _ _ _ h.2.1]; rfl); go_simp) hS ?_
      simp only [Act.put, List.setIfInBounds_toArray, List.set_cons_zero, List.set_cons_succ]
      refine late_val 3 (some 29) rfl rfl (by kernel_rfl) (by kernel_rfl) (by kernel_rfl) [5, 6, 7, 9] (by kernel_rfl) noPanic_put rfl (.int .i64 x) (fun _ _ => by go_simp) hS ?_
      simp only [Act.put, List.setIfInBounds_toArray, List.set_cons_zero, List.set_cons_succ]
      refine late_val 4 (some 30) rfl rfl (by kernel_rfl) (by kernel_rfl) (by kernel_rfl) [5, 6, 7, 9] (by kernel_rfl) noPanic_put rfl (.agg (lcC s.kd s.nm (.slice os s.kids.length cs))) (fun w' h => by unfold lcC; have q0 : w'.cell? ⟨w.heap.size + 1, 0, none⟩ = some (.int .i64 s.kd) := (by rw [cell_of_row w' _ _ _ _ _ h.2.2]; rfl); have q1 : w'.cell? ⟨w.heap.size + 1, 1, none⟩ = some (.int .i64 s.nm) := (by rw [cell_of_row w' _ _ _ _ _ h.2.2]; rfl); have q2 : w'.cell? ⟨w.heap.size + 1, 2, none⟩ = some (.slice os s.kids.length cs) := (by rw [cell_of_row w' _ _ _ _ _ h.2.2]; rfl); go_simp) hS ?_
      simp only [Act.put, List.setIfInBounds_toArray, List.set_cons_zero, List.set_cons_succ]
      refine late_call 5 (some 31) (by kernel_rfl) rfl rfl rfl 55 #[.agg (lcC T.kd T.nm (.slice oz1 T.kids.length cz1)), .int .i64 x, .agg (lcC s.kd s.nm (.slice os s.kids.length cs))] (by go_simp) _ (HCALL.out W2.drew hDW2) ?_
      rintro e w5 ⟨⟨z5, rfl, hz5⟩, hw5⟩
      have hw5 : Below W2.heap.size W2 w5 := ⟨hw5.os, hw5.tape, hw5.output, hw5.size, hw5.block⟩
      have hz5 : LcIn w5 (fun y => (P y ∧ y < w.heap.size) ∨ W2.heap.size ≤ y) (T.put x s) z5 := hz5
      have hsz5 := hw5.size
      obtain ⟨o5, c5, hzz5⟩ := hz5.form
      subst hzz5
      have hB25 : Below wr.heap.size wr w5 := HB2.out.trans (hw5.mono HB2.out.size)
      have hO5 := HO.out.below hB25
      have hS1 : RowAt w5 ob 75 (lcC kd nm (.slice ox j cx)) ∧ RowAt w5 wr.heap.size 75 #[.int .i64 T.kd, .int .i64 T.nm, .slice oz1 T.kids.length cz1] ∧ RowAt w5 (w.heap.size + 1) 75 #[.int .i64 s.kd, .int .i64 s.nm, .slice os s.kids.length cs] := ⟨hO5.row, hRk2.below hw5 hRk2.lt, hRs2.below hw5 hRs2.lt⟩
      refine ⟨_, rfl, .inr hS1, ?_⟩
      simp only [Act.put, List.setIfInBounds_toArray, List.set_cons_zero, List.set_cons_succ]
      have hX : Below w5.heap.size w5 (w5.alloc (.cells (lcC (T.put x s).kd (T.put x s).nm (.slice o5 (T.put x s).kids.length c5)) 75)) := (Below.refl _ _).alloc (Nat.le_refl _) _
      have hS2 : RowAt (w5.alloc (.cells (lcC (T.put x s).kd (T.put x s).nm (.slice o5 (T.put x s).kids.length c5)) 75)) ob 75 (lcC kd nm (.slice ox j cx)) ∧ RowAt (w5.alloc (.cells (lcC (T.put x s).kd (T.put x s).nm (.slice o5 (T.put x s).kids.length c5)) 75)) wr.heap.size 75 #[.int .i64 T.kd, .int .i64 T.nm, .slice oz1 T.kids.length cz1] ∧ RowAt (w5.alloc (.cells (lcC (T.put x s).kd (T.put x s).nm (.slice o5 (T.put x s).kids.length c5)) 75)) (w.heap.size + 1) 75 #[.int .i64 s.kd, .int .i64 s.nm, .slice os s.kids.length cs] := ⟨RowAt.old hS1.1 _, RowAt.old hS1.2.1 _, RowAt.old hS1.2.2 _⟩
      refine late_ready 6 (some 32) (by kernel_rfl) rfl rfl rfl (.slice (some ⟨w5.heap.size, 0, none⟩) 1 1) (w5.alloc (.cells (lcC (T.put x s).kd (T.put x s).nm (.slice o5 (T.put x s).kids.length c5)) 75)) (by unfold lcC; go_simp) (.inr hS2) ?_
      simp only [Act.put, List.setIfInBounds_toArray, List.set_cons_zero, List.set_cons_succ]
      have hown5 : w5.ownsRow W3.heap.size 75 3 (.slice ox j cx) j ys := by have := hO5.own; rwa [List.length_map, ← HJ.out] at this
      obtain ⟨i0, hi, hzz0, hzz1, hzz2⟩ := info_parts info_lcT
      have hb3 := HO.out.size
      have hb4 := HB2.out.size
      refine late_one 7 (by kernel_rfl) rfl rfl fun K hK => ?_
      refine append_own3_wp _ _ _ 73 rfl W3.heap.size 75 i0 (.agg #[.int .i64 0, .int .i64 0, .slice none 0 0]) 3 40 Try.underlying73 hi hzz0 hzz1 hzz2 rfl (by decide) (.slice ox j cx) j ys rfl (hown5.alloc _) ⟨w5.heap.size, 0, none⟩ 1 1 (lcL (T.put x s).kd (T.put x s).nm (.slice o5 (T.put x s).kids.length c5)) rfl rfl (lc_cells w5 (T.put x s).kd (T.put x s).nm (.slice o5 (T.put x s).kids.length c5)) (lcL_one _ _ _ rfl) (by omega) (by unfold maxLen; omega) (by omega) (by simp; omega) ?_
      intro v6 w6 hv6 hg6 hb6
      have hs6 := hg6.size
      simp only [World.size_alloc] at hs6
      have hnb : ∀ b, (Value.slice ox j cx).ownBlock = some b → W3.heap.size ≤ b ∧ b < w5.heap.size := fun b hb => hown5.lt b hb
      have hobl := HO.out.lt
      have hkb : ∀ b, (Value.slice ox j cx).ownBlock = some b → b < wr.heap.size := fun b hb => (HO.out.own.lt b hb).2
      have hS6 : RowAt w6 ob 75 (lcC kd nm (.slice ox j cx)) ∧ RowAt w6 wr.heap.size 75 #[.int .i64 T.kd, .int .i64 T.nm, .slice oz1 T.kids.length cz1] ∧ RowAt w6 (w.heap.size + 1) 75 #[.int .i64 s.kd, .int .i64 s.nm, .slice os s.kids.length cs] := ⟨hS2.1.grown hg6 (fun e => by have := (hnb _ e.symm).1; omega), hS2.2.1.grown hg6 (fun e => by have := hkb _ e.symm; omega), hS2.2.2.grown hg6 (fun e => by have := (hnb _ e.symm).1; have := HOB.out; omega)⟩
      refine hK.out _ _ (.inr hS6) ?_
      simp only [Act.put, List.setIfInBounds_toArray]
      have hS := hS6
      refine late_val 8 (some 34) rfl rfl (by kernel_rfl) (by kernel_rfl) (by kernel_rfl) [9] (by kernel_rfl) noPanic_put rfl (.pointer (some ⟨ob, 2, none⟩)) (fun _ _ => by go_simp) hS ?_
      simp only [Act.put]
      obtain ⟨o6, c6, hv6e⟩ := own_formT hv6
      subst hv6e
      refine late_one 9 (by kernel_rfl) rfl rfl fun K9 hK9 => ?_
      refine store_at_wp 73 _ _ rfl rfl ob 2 (.slice o6 (j + 1) c6) rfl rfl one_sllc rfl 75 (lcC kd nm (.slice ox j cx)) hS6.1 (show 2 < 3 by omega) ?_
      intro w7 hR7 hg7 hs7
      refine hK9.out _ _ (.inl ⟨9, by simp, rfl⟩) ?_
      refine late_done (by kernel_rfl) ?_ _
      refine NoPanic.normal ?_
      have hp9 : LcIn w5 (OutP W3 ob (fun y => P y ∧ y < w.heap.size) (.slice ox j cx)) (T.put x s) (.slice o5 (T.put x s).kids.length c5) := HO.out.part (Nat.le_refl _) hz5 (fun y hy _ => by rcases hy with hy | hy; exact .inl ⟨hy, by have := HOB.out; omega⟩; exact .inr (by have := HB2.out.size; omega))
      have HEND : Hid (OutZ W3 w7 ob kd nm (fun y => P y ∧ y < w.heap.size) ((As ++ [T]).map (fun t => t.put x s)) (.slice o6 (j + 1) c6) (ys ++ lcL (T.put x s).kd (T.put x s).nm (.slice o5 (T.put x s).kids.length c5))) := by
        unfold Hid
        rw [List.map_append]
        refine OutZ.push hO5 hp9 ?_ hg6 hb6 hR7 hg7
        rw [List.length_map, ← HJ.out]
        exact hv6
      have HA2 : Hid (t.kids = (As ++ [T]) ++ Bs) := by unfold Hid; rw [HA.out]; simp
      have HB7 : Hid (Below w.heap.size w w7) := (((HB.out.trans (hB25.mono HB.out.size)).alloc (by have := HB.out.size; have := hB25.size; omega) _).grown hg6 (by have := HB.out.size; have := hB25.size; simp; omega) (fun b hb => by have := (hnb b hb).1; have := HOB.out; omega)).grown hg7 (by have := HB.out.size; have := hB25.size; omega) (by intro k hk; cases hk; have := HOB.out; omega)
      clear hS hS1 hS2 hS6 hO5 hown5 hv6 hg6 hb6 hR7 hg7 hs7 hs6 hp9 hz5 hw5 hB25 hnb hkb hX hK hK9 hRo2 hRk2 hRs2
      go_wp2
      go_roundg Bs.length
      case measure => first | omega | (rw [hgg]; simp)
      case rel => exact ⟨As ++ [T], Bs, .slice o6 (j + 1) c6, _, rfl, HA2, by rw [List.length_append, ← HJ.out]; go_num, HEND, HB7⟩
theorem ldPut_all (x : Int) (s : Lm) : ∀ N, PtC x s N := by
  intro N
  induction N using Nat.strongRecOn with
  | _ N IH => exact ldPut_step x s N IH
end Go.Proofs.Ytnnhedncdpfiaaa.CB

/-
  What both PutComb answer.
-/
namespace Go.Proofs.Ytnnhedncdpfiaaa.CB
open Go.RowKit BL
set_option linter.unusedVariables false

def PtT (l : List Nd) (x : Int) (s : List Nd) : Option Lm := match readP' l, readP' s with
  | some t, some p => if 0 ≤ x ∧ x ≤ 999 then some (t.put x p) else none
  | _, _ => none
theorem PtT_l {l : List Nd} {k : Int} {s : List Nd} (h : readP' l = none) : PtT l k s = none := by unfold PtT; rw [h]
theorem PtT_s {l : List Nd} {k : Int} {s : List Nd} (h : readP' s = none) : PtT l k s = none := by unfold PtT; rw [h]; cases readP' l <;> rfl
theorem PtT_k {l : List Nd} {k : Int} {s : List Nd} (h : ¬ (0 ≤ k ∧ k ≤ 999)) : PtT l k s = none := by unfold PtT; cases readP' l <;> cases readP' s <;> simp [h]
theorem PtT_ok {l : List Nd} {k : Int} {s : List Nd} {t p : Lm} (h1 : readP' l = some t) (h2 : readP' s = some p) (h : 0 ≤ k ∧ k ≤ 999) : PtT l k s = some (t.put k p) := by unfold PtT; rw [h1, h2]; simp [h]
theorem Lm.put_sz (x : Int) (s : Lm) : ∀ t : Lm, (t.put x s).sz ≤ t.sz * s.sz
  | .var c => by
    have := s.sz_pos
    rw [Lm.put]
    split <;> simp only [Lm.sz] <;> omega
  | .app a b => by
    have := s.sz_pos
    have h := Lm.put_sz x s a
    have h2 := Lm.put_sz x s b
    simp only [Lm.put, Lm.sz, Nat.add_mul, Nat.one_mul]; omega
def putV (x : Int) (s : Lm) (c : Leaf) (_ : Nat) : Lm := if (Lm.var c).isV x then s else .var c
theorem putV_map (x : Int) (s : Lm) : ∀ (t : Lm) (m : Nat), mapV (putV x s) t m = t.put x s
  | .var c, m => by rw [mapV, putV, Lm.put]
  | .app a b, m => by rw [mapV, putV_map x s a m, putV_map x s b m, Lm.put]
set_option maxHeartbeats 1000000 in
theorem isVariable_any (t : Lm) (b : Nat) (x : Int) (P : Nat → Prop) (w : World) (h : TrIn w P t b) :
    Calls Try.prog 58 #[.pointer (some ⟨b, 0, none⟩), .int .i64 x] w fun e w' => e = .returned (.bool (t.isV x)) ∧ w' = w := by
  have k0 := h.kind
  have k1 := h.name
  have hbl := h.lt
  obtain ⟨r, hr⟩ : ∃ r, r = t.isV x := ⟨_, rfl⟩
  rw [← hr]
  rw [isV_kn] at hr
  obtain ⟨kd, hkd⟩ : ∃ kd, kd = t.kd := ⟨_, rfl⟩
  obtain ⟨nm, hnm⟩ : ∃ nm, nm = t.nm := ⟨_, rfl⟩
  rw [← hkd] at k0 hr
  rw [← hnm] at k1 hr
  clear hkd hnm h
  by_cases h1 : kd = 1
  · subst h1
    have HR : Hid (r = (nm == x)) := by unfold Hid; rw [hr]; simp
    clear hr
    go_enter Try.func58, Try.ntmps58
    go_wp2
    go_ret
    exact ⟨by rw [HR.out]; rfl, rfl⟩
  · have HR : Hid (r = false) := by unfold Hid; rw [hr]; simp [h1]
    have h1b : (kd == 1) = false := by simp [h1]
    clear hr
    go_enter Try.func58, Try.ntmps58
    go_wp2
    go_ret
    exact ⟨by rw [HR.out]; rfl, rfl⟩
set_option maxHeartbeats 2000000 in
theorem putLeaf (w0 : World) (bx bs bt : Nat) (x : Int) (s : Lm) (hbx : bx < w0.heap.size) (hbs : bs < w0.heap.size) (cx : w0.cell? ⟨bx, 0, none⟩ = some (.int .i64 x)) (cs : w0.cell? ⟨bs, 0, none⟩ = some (.pointer (some ⟨bt, 0, none⟩)))
    (hTs : TrIn w0 (fun y => y < w0.heap.size) s bt) : LeafOk w0 w0.heap.size 57 #[.pointer (some ⟨bx, 0, none⟩), .pointer (some ⟨bs, 0, none⟩)] (putV x s) := by
  intro c b m w hB hT _ hm _ _
  have kx : w.cell? ⟨bx, 0, none⟩ = some (.int .i64 x) := by rw [hB.cell (p := ⟨bx, 0, none⟩) hbx]; exact cx
  have ks : w.cell? ⟨bs, 0, none⟩ = some (.pointer (some ⟨bt, 0, none⟩)) := by rw [hB.cell (p := ⟨bs, 0, none⟩) hbs]; exact cs
  have hws := hB.size
  have HT := hideT' hT
  have HTS : Hid (TrIn w (fun y => y < w0.heap.size) s bt) := TrIn.keep (w := w0) hB.size (fun y _ hy => hB.block y hy) (fun _ h _ => h) hTs
  have HI := hideT' (isVariable_any (.var c) b x _ w hT)
  obtain ⟨r, hr⟩ : ∃ r, r = (Lm.var c).isV x := ⟨_, rfl⟩
  rw [← hr] at HI
  have HE : Hid (putV x s c m = if r then s else .var c) := by unfold Hid putV; rw [← hr]
  clear hT cx cs hB hTs hr
  show Calls Try.prog 57 #[.pointer (some ⟨b, 0, none⟩), .int .i64 (m : Int), .pointer (some ⟨bx, 0, none⟩), .pointer (some ⟨bs, 0, none⟩)] w _
  go_enter Try.func57, Try.ntmps57
  go_wp2_with fail
  refine HI.out.mono ?_
  rintro e w1 ⟨rfl, hw1⟩
  rw [hw1]
  clear hw1
  cases r with
  | true =>
    go_wp2
    go_ret
    exact ⟨⟨bt, rfl, by rw [HE.out]; exact TrIn.mono (fun y hy _ => .inl hy) HTS.out⟩, Below.refl _ _⟩
  | false =>
    go_wp2
    go_ret
    exact ⟨⟨b, rfl, by rw [HE.out]; exact TrIn.mono (fun y hy _ => .inl hy) HT.out⟩, Below.refl _ _⟩
theorem call_put1 : ∀ args w, (callFunc 57 args).run Try.prog w = .ok (.enter 57 args) w := enters_of Try.func57 (by kernel_rfl) rfl
set_option maxHeartbeats 4000000 in
theorem implPutComb_any (l : List Nd) (x : Int) (s : List Nd) (v vs : Value) (w : World) (hv : NdIn w v l) (hvs : NdIn w vs s) (hl : l.length ≤ 1048576) (hls : s.length ≤ 1048576) :
    Calls Try.prog 32 #[v, .int .i64 x, vs] w fun e w' => TOut w (PtT l x s) e w' ∧ Below w.heap.size w w' := by
  obtain ⟨W, hWd⟩ : ∃ W, W = w.alloc (.cells #[.int .i64 x] 3) := ⟨_, rfl⟩
  have hBW : Below w.heap.size w W := by rw [hWd]; exact (Below.refl _ _).alloc (Nat.le_refl _) _
  have hRx : RowAt W w.heap.size 3 #[.int .i64 x] := by rw [hWd]; exact RowAt.new _ _ _
  have HVS : Hid (NdIn W vs s) := hvs.below hBW
  have HC := hideT' (readTree_any l v W (hv.below hBW) hl)
  have HBW := hideT' hBW
  have HRX := hideT' hRx
  clear hv hvs hBW hRx
  go_enter Try.func32, Try.ntmps32
  go_wp2_with fail
  rw [← hWd]
  refine HC.out.mono ?_
  rintro e w1 ⟨hans, hB1⟩
  have HC2 := hideT' (readTree_any s vs w1 (HVS.out.below hB1) hls)
  have HB1 : Hid (Below w.heap.size w w1) := HBW.out.trans (hB1.mono HBW.out.size)
  have HX1 := hideT' (HRX.out.below hB1 HRX.out.lt)
  clear hB1 hWd
  rcases hans with ⟨p, rfl, hn⟩ | ⟨t, b, rfl, hr, hT⟩
  · have HN := hideT' (PtT_l (k := x) (s := s) hn)
    clear hn
    go_wp2_with fail
    refine HC2.out.mono ?_
    rintro e w2 ⟨hans2, hB2⟩
    have HB2 : Hid (Below w.heap.size w w2) := HB1.out.trans (hB2.mono HB1.out.size)
    rcases hans2 with ⟨p2, rfl, hn2⟩ | ⟨t2, b2, rfl, hr2, hT2⟩
    · clear hn2 hB2
      go_wp2
      go_ret2
      exact ⟨TOut.bad HN.out, HB2.out.alloc HB2.out.size _⟩
    · clear hr2 hT2 hB2
      go_wp2
      go_ret2
      exact ⟨TOut.bad HN.out, HB2.out.alloc HB2.out.size _⟩
  · have HT := hideT' hT
    have HR := hideT' hr
    clear hT hr
    go_wp2_with fail
    refine HC2.out.mono ?_
    rintro e w2 ⟨hans2, hB2⟩
    have HB2 : Hid (Below w.heap.size w w2) := HB1.out.trans (hB2.mono HB1.out.size)
    have HX2 := hideT' (HX1.out.below hB2 HX1.out.lt)
    rcases hans2 with ⟨p2, rfl, hn2⟩ | ⟨t2, b2, rfl, hr2, hT2⟩
    · have HN := hideT' (PtT_s (l := l) (k := x) hn2)
      clear hn2 hB2
      go_wp2
      go_ret2
      exact ⟨TOut.bad HN.out, HB2.out.alloc HB2.out.size _⟩
    · obtain ⟨w0, hw0⟩ : ∃ w0, w0 = w2.alloc (.cells #[.pointer (some ⟨b2, 0, none⟩)] 68) := ⟨_, rfl⟩
      have hB0 : Below w2.heap.size w2 w0 := by rw [hw0]; exact (Below.refl _ _).alloc (Nat.le_refl _) _
      have hs0 : w2.heap.size + 1 = w0.heap.size := by rw [hw0]; simp
      have hT1 : TrIn w0 (fun y => y < w0.heap.size) t b := TrIn.keep (w := w1) (by have := hB2.size; omega) (fun y _ hy => by rw [hB0.block y (by have := hB2.size; omega)]; exact hB2.block y hy) (fun y _ hy => by have := hB2.size; omega) HT.out
      have hT22 : TrIn w0 (fun y => y < w0.heap.size) t2 b2 := TrIn.keep (w := w2) hB0.size (fun y _ hy => hB0.block y hy) (fun y _ hy => by omega) hT2
      have f1 := readP'_facts HR.out
      have f2 := readP'_facts hr2
      have cx0 : w0.cell? ⟨w.heap.size, 0, none⟩ = some (.int .i64 x) := by rw [cell_of_row _ _ _ _ _ _ (HX2.out.below hB0 HX2.out.lt)]; rfl
      have cs0 : w0.cell? ⟨w2.heap.size, 0, none⟩ = some (.pointer (some ⟨b2, 0, none⟩)) := by rw [hw0, cell_of_row _ _ _ _ _ _ (RowAt.new w2 68 #[.pointer (some ⟨b2, 0, none⟩)])]; rfl
      have c2 : w2.cell? ⟨w.heap.size, 0, none⟩ = some (.int .i64 x) := by rw [cell_of_row _ _ _ _ _ _ HX2.out]; rfl
      have hwl : w.heap.size < w2.heap.size := HX2.out.lt
      have HBB0 : Hid (Below w.heap.size w w0) := HB2.out.trans (hB0.mono HB2.out.size)
      by_cases hk : 0 ≤ x ∧ x ≤ 999
      · have HN := hideT' (PtT_ok HR.out hr2 hk)
        obtain ⟨hk1, hk2⟩ := hk
        have hsz : (t.put x t2).sz ≤ 1000000 := Nat.le_trans (Lm.put_sz x t2 t) (Nat.le_trans (Nat.mul_le_mul f1.2.1 f2.2.1) (by omega))
        have HC3 := hideT' (replaced_any w0 w0.heap.size (Nat.le_refl _) 57 #[.pointer (some ⟨w.heap.size, 0, none⟩), .pointer (some ⟨w2.heap.size, 0, none⟩)] (putV x t2) call_put1 (putLeaf w0 w.heap.size w2.heap.size b2 x t2 (by omega) (by omega) cx0 cs0 hT22) t.sz t (Nat.le_refl _) b 0 w0 (Below.refl _ _) hT1 (by rw [putV_map]; exact hsz) (by omega) (Lm.ok_bd f1.2.2.2.1))
        rw [putV_map] at HC3
        have HSZ := hideT' hsz
        clear hr2 hT2 hB2 hT1 hT22 f1 f2 hsz cx0 cs0 hB0 hs0
        go_wp2_with fail
        rw [← hw0]
        refine HC3.out.mono ?_
        rintro e w3 ⟨⟨b3, rfl, hT3⟩, hB3⟩
        have HB3 : Hid (Below w.heap.size w w3) := HBB0.out.trans (hB3.mono HBB0.out.size)
        have HC4 := hideT' (tellTree_any _ b3 _ w3 hT3 HSZ.out)
        clear hT3 hB3 hw0
        go_wp2_with fail
        refine HC4.out.mono ?_
        rintro e w4 ⟨hT4, hB4⟩
        obtain ⟨u4, rfl, hO4⟩ := hT4
        have HF : Hid (TOut w (PtT l x s) (.returned (.tuple #[u4, .bool (t.put x t2).good])) w4 ∧ Below w.heap.size w w4) := ⟨ToldT.out (t := t.put x t2) ⟨u4, rfl, hO4⟩ HB3.out.size HN.out, HB3.out.trans (hB4.mono HB3.out.size)⟩
        obtain ⟨q, hq⟩ : ∃ q, q = (t.put x t2).good := ⟨_, rfl⟩
        rw [← hq] at HF ⊢
        clear hq hO4 hB4
        go_wp2
        go_ret2
        exact HF.out
      · have HN := hideT' (PtT_k (l := l) (s := s) hk)
        clear hr2 hT2 hB2 hT1 hT22 f1 f2 cx0 cs0 hB0 hs0
        by_cases h0 : x < 0
        · go_wp2
          go_ret2
          rw [← hw0]
          exact ⟨TOut.bad HN.out, HBB0.out⟩
        · have h9 : 999 < x := by omega
          go_wp2
          go_ret2
          rw [← hw0]
          exact ⟨TOut.bad HN.out, HBB0.out⟩
set_option maxHeartbeats 4000000 in
theorem specPutComb_any (l : List Nd) (k : Int) (s : List Nd) (v vs : Value) (w : World) (hv : NdIn w v l) (hvs : NdIn w vs s) (hl : l.length ≤ 1048576) (hls : s.length ≤ 1048576) :
    Calls Try.prog 31 #[v, .int .i64 k, vs] w fun e w' => TOut w (PtT l k s) e w' ∧ Below w.heap.size w w' := by
  have HV := hideT' hv
  have HVS := hideT' hvs
  have HC := hideT' (specGoodComb_any l v w hv hl)
  clear hv hvs
  cases hr : readP' l with
  | none =>
    have HN := hideT' (PtT_l (k := k) (s := s) hr)
    rw [goodS_none hr] at HC
    clear hr
    go_enter Try.func31, Try.ntmps31
    go_wp2_with fail
    refine HC.out.mono ?_
    rintro e w1 ⟨rfl, hB1⟩
    go_wp2
    go_ret2
    exact ⟨TOut.bad HN.out, hB1⟩
  | some t =>
    rw [goodS_some hr] at HC
    have HR := hideT' hr
    clear hr
    go_enter Try.func31, Try.ntmps31
    go_wp2_with fail
    refine HC.out.mono ?_
    rintro e w1 ⟨rfl, hB1⟩
    have HC2 := hideT' (specGoodComb_any s vs w1 (HVS.out.below hB1) hls)
    have HB1 := hideT' hB1
    clear hB1
    cases hr2 : readP' s with
    | none =>
      have HN := hideT' (PtT_s (l := l) (k := k) hr2)
      rw [goodS_none hr2] at HC2
      clear hr2
      go_wp2_with fail
      refine HC2.out.mono ?_
      rintro e w2 ⟨rfl, hB2⟩
      have HB2 : Hid (Below w.heap.size w w2) := HB1.out.trans (hB2.mono HB1.out.size)
      clear hB2
      go_wp2
      go_ret2
      exact ⟨TOut.bad HN.out, HB2.out⟩
    | some t2 =>
      rw [goodS_some hr2] at HC2
      have HR2 := hideT' hr2
      clear hr2
      go_wp2_with fail
      refine HC2.out.mono ?_
      rintro e w2 ⟨rfl, hB2⟩
      have HB2 : Hid (Below w.heap.size w w2) := HB1.out.trans (hB2.mono HB1.out.size)
      clear hB2
      go_wp2_with fail
      refine (l1In_any k 0 999 _).mono ?_
      rintro e w3 ⟨rfl, hw3⟩
      rw [hw3]
      clear hw3
      by_cases hk : 0 ≤ k ∧ k ≤ 999
      · have HN := hideT' (PtT_ok HR.out HR2.out hk)
        have HK := hideT' hk
        rw [decide_eq_true hk.1, decide_eq_true hk.2]
        clear hk
        have HC3 := hideT' (lcTree_whole l t v w2 (HV.out.below HB2.out) HR.out)
        go_wp2_with fail
        refine HC3.out.mono ?_
        rintro e w4 ⟨⟨z4, rfl, hz4⟩, hB4⟩
        have HB4 : Hid (Below w.heap.size w w4) := HB2.out.trans (hB4.mono HB2.out.size)
        have HC4 := hideT' (lcTree_whole s t2 vs w4 (HVS.out.below HB4.out) HR2.out)
        have HZ4 := hideT' hz4
        clear hB4 hz4
        go_wp2_with fail
        refine HC4.out.mono ?_
        rintro e w5 ⟨⟨z5, rfl, hz5⟩, hB5⟩
        have HB5 : Hid (Below w.heap.size w w5) := HB4.out.trans (hB5.mono HB4.out.size)
        have f1 := readP'_facts HR.out
        have f2 := readP'_facts HR2.out
        have HC5 := hideT' (ldPut_all k t2 t.sz t (Nat.le_refl _) z4 z5 (fun _ => True) w5 (LcIn.keep (w := w4) hB5.size (fun x _ hx => hB5.block x hx) (fun _ _ _ => trivial) HZ4.out) (LcIn.mono (fun _ _ _ => trivial) hz5))
        clear hB5 hz5 f1 f2
        go_wp2_with fail
        refine HC5.out.mono ?_
        rintro e w6 ⟨⟨z6, rfl, hz6⟩, hB6⟩
        have HB6 : Hid (Below w.heap.size w w6) := HB5.out.trans (hB6.mono HB5.out.size)
        have HC6 := hideT' (lcTold_any (t.put k t2) z6 _ w6 hz6)
        clear hB6 hz6
        go_wp2_with fail
        refine HC6.out.mono ?_
        rintro e w7 ⟨hT4, hB4⟩
        obtain ⟨u4, rfl, hO4⟩ := hT4
        have HF : Hid (TOut w (PtT l k s) (.returned (.tuple #[u4, .bool (t.put k t2).good])) w7 ∧ Below w.heap.size w w7) := ⟨ToldT.out (t := t.put k t2) ⟨u4, rfl, hO4⟩ HB6.out.size HN.out, HB6.out.trans (hB4.mono HB6.out.size)⟩
        obtain ⟨q, hq⟩ : ∃ q, q = (t.put k t2).good := ⟨_, rfl⟩
        rw [← hq] at HF ⊢
        clear hq hO4 hB4
        go_wp2
        go_ret2
        exact HF.out
      · have HN := hideT' (PtT_k (l := l) (s := s) hk)
        have hbb : (decide (0 ≤ k) && decide (k ≤ 999)) = false := by simpa using hk
        rw [hbb]
        clear hbb hk
        go_wp2
        go_ret2
        exact ⟨TOut.bad HN.out, HB2.out⟩
end Go.Proofs.Ytnnhedncdpfiaaa.CB

/-
  What hasVariable of the program and ldHas of the model answer.
-/
namespace Go.Proofs.Ytnnhedncdpfiaaa.CB
open Go.RowKit Go.Shelf BL
set_option linter.unusedVariables false
attribute [local go_sem] Oper.semAt_some

def Lm.has (t : Lm) (x : Int) : Bool := match t with
  | .var c => (Lm.var c).isV x
  | .app a b => a.has x || b.has x
theorem Lm.walk_has (x : Int) : ∀ (t : Lm) (a : Nat) (u : Int) (m : Nat), t.has x = (t.walk a u m).any fun s => s.t.isV x
  | .var c, a, u, m => by simp [Lm.walk, Lm.has]
  | .app s t, a, u, m => by rw [Lm.walk, List.any_cons, List.any_append, ← Lm.walk_has x s, ← Lm.walk_has x t]; simp [Lm.has, Lm.isV]
theorem has_none {t : Lm} {x : Int} {ys : List (Spot × Nat)} (h : ys.map Prod.fst = t.walk 0 (-1) 0) (hall : ∀ y ∈ ys, y.1.t.isV x = false) : t.has x = false := by
  rw [Lm.walk_has x t 0 (-1) 0, ← h, List.any_eq_false]
  intro s hs
  obtain ⟨y, hy, rfl⟩ := List.mem_map.1 hs
  simp [hall y hy]
theorem has_one {t : Lm} {x : Int} {pre : List Spot} {s : Spot} {post : List Spot} (h : t.walk 0 (-1) 0 = pre ++ s :: post) (hx : s.t.isV x = true) : t.has x = true := by
  rw [Lm.walk_has x t 0 (-1) 0, List.any_eq_true]
  exact ⟨s, by rw [h]; simp, hx⟩
def HvI (w : World) (x : Int) (pre : List (Spot × Nat)) (V : Nat → Prop) (W : World) : Prop :=
  (∀ z, V z ↔ (z = w.heap.size ∨ z = w.heap.size + 1)) ∧ RowAt W w.heap.size 3 #[.int .i64 x] ∧ RowAt W (w.heap.size + 1) 4 #[.bool false] ∧ Below w.heap.size w W ∧ ∀ y ∈ pre, y.1.t.isV x = false
theorem HvI.step {w : World} {x : Int} {pre : List (Spot × Nat)} {V : Nat → Prop} {A B : World} {row : Option Nat} (h : HvI w x pre V A) (hg : A.grownBy B row) (hr : ∀ r, row = some r → ¬ V r ∧ w.heap.size ≤ r) : HvI w x pre V B :=
  ⟨h.1, h.2.1.grown hg (fun e => (hr _ e.symm).1 ((h.1 _).2 (.inl rfl))), h.2.2.1.grown hg (fun e => (hr _ e.symm).1 ((h.1 _).2 (.inr rfl))), h.2.2.2.1.grown hg h.2.2.2.1.size (fun k e => (hr k e).2), h.2.2.2.2⟩
/-- How a round of hasVariable begins. -/
def hvAct (w : World) (b : Nat) (v : Int) (x : Spot × Nat) : Act :=
  { tmps := #[.pointer (some ⟨b, 0, none⟩), .int .i64 v, undef, .pointer (some ⟨w.heap.size, 0, none⟩), .pointer (some ⟨w.heap.size + 1, 0, none⟩), undef, .pointer (some ⟨x.2, 0, none⟩), .pointer (some ⟨b, 0, none⟩), .func (.func 89) #[] #[.pointer (some ⟨w.heap.size + 2, 0, none⟩)],
      .agg #[.int .i64 (x.1.at_ : Int), .int .i64 x.1.up, .int .i64 (x.1.lam : Int)], .pointer (some ⟨x.2, 0, none⟩), undef, undef, undef], defers := [] }
set_option maxRecDepth 100000 in
set_option maxHeartbeats 8000000 in
theorem hasVariable_any (t : Lm) (b : Nat) (v : Int) (P : Nat → Prop) (w : World) (hT : TrIn w P t b) (hs : t.sz ≤ 1000000) :
    Calls Try.prog 77 #[.pointer (some ⟨b, 0, none⟩), .int .i64 v] w fun e w' => e = .returned (.bool (t.has v)) ∧ Below w.heap.size w w' := by
  refine (callsIn_wide (n := 4)).1 ?_
  have HT := hideT' hT
  have hbl := hT.lt
  obtain ⟨r, hr⟩ : ∃ r, r = t.has v := ⟨_, rfl⟩
  rw [← hr]
  have HR := hideT' hr
  clear hT hr
  obtain ⟨w2, hw2⟩ : ∃ w2, w2 = (w.alloc (.cells #[.int .i64 v] 3)).alloc (.cells #[.bool false] 4) := ⟨_, rfl⟩
  have hB2 : Below w.heap.size w w2 := by rw [hw2]; exact ((Below.refl _ _).alloc (Nat.le_refl _) _).alloc (by simp) _
  have hs2 : w2.heap.size = w.heap.size + 2 := by rw [hw2]; simp
  have hRx : RowAt w2 w.heap.size 3 #[.int .i64 v] := by rw [hw2]; exact RowAt.old (RowAt.new _ _ _) _
  have hRr : RowAt w2 (w.heap.size + 1) 4 #[.bool false] := by
    rw [hw2]
    have := RowAt.new (w.alloc (.cells #[.int .i64 v] 3)) 4 #[.bool false]
    rwa [World.size_alloc] at this
  have HW2 := hideT' (And.intro hB2 (And.intro hRx (And.intro hRr hs2)))
  clear hB2 hRx hRr hs2
  refine callsIn_of_wp_marks Try.func77 rfl trivial ?_ rfl
  simp only [Try.ntmps77, List.size_toArray, List.length_cons, List.length_nil, Nat.reduceAdd, Nat.reduceSub, Array.replicate_succ, Array.replicate_zero, List.push_toArray, List.append_toArray, List.nil_append, List.cons_append]
  gi_wp2
  refine ⟨trivial, ?_⟩
  gi_at_call 76
  rw [← hw2]
  refine (callsIn_wide.2 (walk_any b _)).mono ?_
  rintro e w3 ⟨rfl, hw3⟩
  have hB23 : Below w2.heap.size w2 w3 := by rw [hw3]; exact (Below.refl _ _).alloc (Nat.le_refl _) _
  have hB3 : Below w.heap.size w w3 := HW2.out.1.trans (hB23.mono HW2.out.1.size)
  have hI0 : HvI w v [] (fun z => z = w.heap.size ∨ z = w.heap.size + 1) w3 := ⟨fun z => Iff.rfl, HW2.out.2.1.below hB23 HW2.out.2.1.lt, HW2.out.2.2.1.below hB23 HW2.out.2.2.1.lt, hB3, fun y hy => by simp at hy⟩
  have hcx : w3.cell? ⟨w2.heap.size, 0, none⟩ = some (.pointer (some ⟨b, 0, none⟩)) := by
    rw [hw3, cell_of_row _ _ _ _ _ _ (RowAt.new w2 68 #[.pointer (some ⟨b, 0, none⟩)])]; rfl
  have hs3 : w3.heap.size = w2.heap.size + 1 := by rw [hw3]; simp
  rw [HW2.out.2.2.2] at hcx hs3 ⊢
  have HI0 := hideT' hI0
  have HB3 := hideT' hB3
  have HCX := hideT' hcx
  have HS3 := hideT' hs3
  clear hw3 hI0 hB3 hcx hB23 hw2 hs3
  gi_wp2
  refine range_ret (gf := 89) (lb := #[.pointer (some ⟨w.heap.size + 2, 0, none⟩)]) (by rfl) (enters_of Try.func89 (by kernel_rfl) rfl) encS (fun x => rfl) _ _ _ (walk_seq (w.heap.size + 2) t b hs)
    (fun pre x V V' W hVV h => ⟨h.1, TrIn.mono (fun z hz _ hv => hz (hVV z hv)) h.2⟩)
    (HvI w v) (fun s V A h z hz => by rcases (h.1 z).1 hz with e | e; rw [e]; exact h.2.1.lt; rw [e]; exact h.2.2.1.lt) (fun s V A B row h hg hr => h.step hg (fun r e => ⟨(hr r e).1, by have := (hr r e).2; have := HS3.out; omega⟩)) (fun z => z = w.heap.size ∨ z = w.heap.size + 1) HI0.out ?need
    (fun pre x V c W => c = hvAct w b v x ∧ (∃ post, t.walk 0 (-1) 0 = pre.map Prod.fst ++ x.1 :: post) ∧ HvI w v pre V W ∧ TrIn W (fun z => ¬ V z) x.1.t x.2) ?ax
    (fun W => RowAt W (w.heap.size + 1) 4 #[.bool true] ∧ Below w.heap.size w W ∧ t.has v = true) ?rf ?assign ?body ?leave ?done
  case need =>
    intro B V hg hV
    have hs3 := HS3.out
    refine ⟨TrIn.keep (w := w) (P := P) (by have := hg.size; omega) (fun x _ hx => ?_) (fun x _ hx hv => ?_) HT.out, ?_⟩
    · rw [hg.block x (by omega) (by simp)]; exact HB3.out.block x hx
    · rcases hV x hv with h | h <;> omega
    · rw [World.cell?_of_block (w := w3) (a := ⟨w.heap.size + 2, 0, none⟩) (hg.block _ (by simp; omega) (by simp))]; exact HCX.out
  case ax =>
    rintro s x V c A B row ⟨h1, h2, h3, h5⟩ hg hr
    exact ⟨h1, h2, h3.step hg (fun r e => ⟨(hr r e).1.1, by have := (hr r e).1.2; have := HS3.out; omega⟩), TrIn.turn hg (fun r e => (hr r e).2) h5⟩
  case rf =>
    rintro A B row ⟨h1, h2, h3⟩ hg hr
    exact ⟨TrIn.turn.row_same h1 hg (fun r e => (hr r e).2), h2.grown hg h2.size (fun k e => by have := (hr k e).1; have := HS3.out; omega), h3⟩
  case assign =>
    intro l pre x V W K hNx hI hK
    have HI := hideT' hI
    have HK := hideT' hK
    have HNX := hideT' hNx
    unfold encS
    clear hI hK hNx
    gi_wp2
    exact HK.out _ _ V ⟨rfl, HNX.out.1, HI.out, HNX.out.2⟩ (MoreB.refl _ _) (KeepsB.refl _ _)
  case body =>
    rintro l pre x V c W ⟨rfl, ⟨post, hpo⟩, hI, hTx⟩
    unfold hvAct
    have HC := hideT' (isVariable_any x.1.t x.2 v _ W hTx)
    obtain ⟨q, hq⟩ : ∃ q, q = x.1.t.isV v := ⟨_, rfl⟩
    rw [← hq] at HC
    have hcv : W.cell? ⟨w.heap.size, 0, none⟩ = some (.int .i64 v) := by rw [cell_of_row _ _ _ _ _ _ hI.2.1]; rfl
    have hR := hI.2.2.1
    have hcr : W.cell? ⟨w.heap.size + 1, 0, none⟩ = some (.bool false) := by rw [cell_of_row _ _ _ _ _ _ hR]; rfl
    have hfrz : W.frozen? ⟨w.heap.size + 1, 0, none⟩ = false := frozen_of_row W (w.heap.size + 1) _ _ _ hR
    have hrl := hR.lt
    have HI := hideT' hI
    have HPO := hideT' hpo
    have HQ := hideT' hq
    clear hR hTx hI hpo hq
    cases q with
    | true =>
      have HOK := hideT' (has_one HPO.out HQ.out.symm)
      gi_wp2
      refine ⟨trivial, ?_⟩
      gi_at_call 58
      refine (CallsIn.inRound l (callsIn_wide.2 HC.out)).mono ?_
      rintro e w4 ⟨rfl, hw4⟩
      rw [hw4]
      clear hw4
      gi_wp2
      have hst : RowAt (W.setCell ⟨w.heap.size + 1, 0, none⟩ (.bool true)) (w.heap.size + 1) 4 #[.bool true] := heap_setCell_same W (w.heap.size + 1) 0 _ _ (.bool true) HI.out.2.2.1
      have hbs : Below w.heap.size w (W.setCell ⟨w.heap.size + 1, 0, none⟩ (.bool true)) := HI.out.2.2.2.1.setCell (by simp) _
      refine ⟨⟨hst, hbs, HOK.out⟩, ⟨by simp, fun z hz hv => ?_⟩⟩
      have hzn : z ≠ w.heap.size + 1 := fun e => hv ((HI.out.1 z).2 (.inr e))
      rw [heap_setCell_other _ ⟨w.heap.size + 1, 0, none⟩ z _ (fun e => hzn e)]
    | false =>
      gi_wp2
      refine ⟨trivial, ?_⟩
      gi_at_call 58
      refine (CallsIn.inRound l (callsIn_wide.2 HC.out)).mono ?_
      rintro e w4 ⟨rfl, hw4⟩
      rw [hw4]
      clear hw4
      gi_wp2
      refine ⟨V, ⟨HI.out.1, HI.out.2.1, HI.out.2.2.1, HI.out.2.2.2.1, fun y hy => ?_⟩, MoreB.refl _ _, KeepsB.refl _ _⟩
      rcases List.mem_append.1 hy with hy | hy
      · exact HI.out.2.2.2.2 y hy
      · rw [List.mem_singleton] at hy
        subst hy
        exact HQ.out.symm
  case leave =>
    rintro D W hD ⟨hR, hB, hno⟩ hK
    have HF : Hid (r = true) := by unfold Hid; rw [HR.out, hno]
    have HRB := hideT' (And.intro hR hB)
    have HK := hideT' hK
    clear hR hB hno hK
    gi_wp2
    have hR' : RowAt (W.putObj D (.deferred none)) (w.heap.size + 1) 4 #[.bool true] := row_put HRB.out.1 HK.out rfl
    exact leave_marks (v := .bool true) HK.out (results_one Try.results77 _ _ (w.heap.size + 1) (.bool true) rfl (by rw [cell_of_row _ _ _ _ _ _ hR']; rfl)) ⟨by rw [HF.out], below_put HRB.out.2 (by have := HS3.out; omega) HRB.out.2.size⟩
  case done =>
    rintro D ys V W hD hS ⟨hV, hRx, hR, hB, hall⟩ hVD hK
    have HF : Hid (r = false) := by unfold Hid; rw [HR.out]; exact has_none hS hall
    have hcr : W.cell? ⟨w.heap.size + 1, 0, none⟩ = some (.bool false) := by rw [cell_of_row _ _ _ _ _ _ hR]; rfl
    have hfrz : W.frozen? ⟨w.heap.size + 1, 0, none⟩ = false := frozen_of_row W (w.heap.size + 1) _ _ _ hR
    have hst : RowAt (W.setCell ⟨w.heap.size + 1, 0, none⟩ (.bool false)) (w.heap.size + 1) 4 #[.bool false] := heap_setCell_same W (w.heap.size + 1) 0 _ _ (.bool false) hR
    have hDn : D ≠ w.heap.size + 1 := fun e => by rw [e] at hK; rw [hR] at hK; cases hK
    have hK2 : (W.setCell ⟨w.heap.size + 1, 0, none⟩ (.bool false)).heap[D]? = some (.deferred (some [])) := by rw [heap_setCell_other W ⟨w.heap.size + 1, 0, none⟩ D _ (fun e => hDn e)]; exact hK
    have HRB := hideT' (And.intro hst (hB.setCell (p := ⟨w.heap.size + 1, 0, none⟩) (by simp) (.bool false)))
    have HK := hideT' hK2
    clear hR hRx hB hall hK hst hK2 hV
    gi_wp2
    have hR' : RowAt ((W.setCell ⟨w.heap.size + 1, 0, none⟩ (.bool false)).putObj D (.deferred none)) (w.heap.size + 1) 4 #[.bool false] := row_put HRB.out.1 HK.out rfl
    exact leave_marks (v := .bool false) HK.out (results_one Try.results77 _ _ (w.heap.size + 1) (.bool false) rfl (by rw [cell_of_row _ _ _ _ _ _ hR']; rfl)) ⟨by rw [HF.out], below_put HRB.out.2 (by have := HS3.out; omega) HRB.out.2.size⟩
def LdHasC (x : Int) (N : Nat) : Prop := ∀ (t : Lm), t.sz ≤ N → ∀ (z : Value) (P : Nat → Prop) (w : World), LcIn w P t z →
    Calls Try.prog 72 #[.agg (lcC t.kd t.nm z), .int .i64 x] w fun e w' => e = .returned (.bool (t.has x)) ∧ Below w.heap.size w w'
theorem has_kids (t : Lm) (x : Int) (h : ¬ t.kd = 1) : t.has x = t.kids.any fun s => s.has x := by
  cases t with
  | var c => cases c <;> simp [Lm.kd, Leaf.kd] at h <;> rfl
  | app a b => simp [Lm.has, Lm.kids]
theorem has_var (t : Lm) (x : Int) (h : t.kd = 1) : t.has x = (t.nm == x) := by
  cases t with
  | var c => cases c <;> simp [Lm.kd, Leaf.kd] at h; rfl
  | app a b => simp [Lm.kd] at h
set_option maxHeartbeats 4000000 in
theorem ldHas_step (x : Int) (N : Nat) (IH : ∀ n, n < N → LdHasC x n) : LdHasC x N := by
  intro t ht z P w hz
  have hz0 := zero_lcT.1
  obtain ⟨oz, cz, hzz⟩ := hz.form
  subst hzz
  have HIH := hideT' IH
  have HTN := hideT' ht
  have HZ := hideT' hz
  obtain ⟨r, hr⟩ : ∃ r, r = t.has x := ⟨_, rfl⟩
  rw [← hr]
  obtain ⟨kd, hkd⟩ : ∃ kd, kd = t.kd := ⟨_, rfl⟩
  obtain ⟨nm, hnm⟩ : ∃ nm, nm = t.nm := ⟨_, rfl⟩
  obtain ⟨q, hq⟩ : ∃ q, q = t.kids.length := ⟨_, rfl⟩
  have hq2 : q ≤ 2 := by rw [hq]; cases t <;> simp [Lm.kids]
  rw [← hq] at HZ
  rw [← hkd, ← hnm, ← hq]
  unfold lcC
  have HB0 : Hid (Below w.heap.size w (w.alloc (.cells #[.int .i64 kd, .int .i64 nm, .slice oz q cz] 75))) := (Below.refl _ _).alloc (Nat.le_refl _) _
  by_cases h1 : kd = 1
  · have HR : Hid (r = (nm == x)) := by unfold Hid; rw [hr, hnm]; exact has_var t x (by rw [← hkd]; exact h1)
    clear IH hz hr hkd hnm hq ht
    subst h1
    go_enter Try.func72, Try.ntmps72
    go_wp2
    go_ret
    exact ⟨by rw [HR.out]; rfl, HB0.out⟩
  · have HR : Hid (r = t.kids.any fun s => s.has x) := by unfold Hid; rw [hr]; exact has_kids t x (by rw [← hkd]; exact h1)
    have HQ := hideT' hq
    have h1b : (kd == 1) = false := by simp [h1]
    clear IH hz hr hkd hnm hq ht
    go_enter Try.func72, Try.ntmps72
    go_wp2_with fail
    go_loopg [17] q (fun gg i wr => ∃ (As Bs : List Lm), gg = Bs.length ∧ Hid (t.kids = As ++ Bs ∧ (As.any fun s => s.has x) = false) ∧ i = .int .i64 (As.length : Int) ∧ Hid (Below w.heap.size w wr))
    case atStart => exact ⟨[], t.kids, by rw [HQ.out], ⟨rfl, rfl⟩, rfl, HB0⟩
    case round =>
      obtain ⟨As, Bs, hgg, HA, rfl, HB⟩ := hrel
      obtain ⟨j, hj⟩ : ∃ j, j = As.length := ⟨_, rfl⟩
      rw [← hj]
      have HJ := hideT' hj
      clear hj
      cases Bs with
      | nil =>
        have hjm : j = q := by rw [HJ.out, HQ.out, HA.out.1]; simp
        have hnl : ¬ (j : Int) < (q : Int) := by omega
        have HF : Hid (r = false) := by unfold Hid; rw [HR.out, HA.out.1]; simpa using HA.out.2
        clear hgg hjm
        go_wp2
        go_ret
        exact ⟨by rw [HF.out]; rfl, HB.out⟩
      | cons T Bs =>
        have hil : (j : Int) < (q : Int) := by rw [HQ.out, HA.out.1, List.length_append, ← HJ.out]; simp; omega
        have hkj : t.kids[j]? = some T := by rw [HA.out.1, HJ.out]; simp
        have hTm : T ∈ t.kids := List.mem_of_getElem? hkj
        have hzr : LcIn wr (fun b => P b ∧ b < w.heap.size) t (.slice oz q cz) := LcIn.keep (w := w) HB.out.size (fun y hy hl => HB.out.block y hl) (fun y hy hl => ⟨hy, hl⟩) HZ.out
        obtain ⟨o', c', e', hpart⟩ := hzr.parts
        injection e' with e1 e2 e3
        subst e1
        clear e2 e3
        obtain ⟨g, z1, hoz, hg, ⟨k0, k1, k2⟩, hz1⟩ := hpart j T hkj
        subst hoz
        have hg1 := hg.1
        obtain ⟨oz1, cz1, hzz1'⟩ := hz1.form
        subst hzz1'
        obtain ⟨W2, hW2⟩ : ∃ W2, W2 = wr.alloc (.cells #[.int .i64 T.kd, .int .i64 T.nm, .slice oz1 T.kids.length cz1] 75) := ⟨_, rfl⟩
        have hB2 : Below wr.heap.size wr W2 := by rw [hW2]; exact (Below.refl _ _).alloc (Nat.le_refl _) _
        have HCALL := hideT' (HIH.out T.sz (by have := HTN.out; have := Lm.kids_lt hTm; omega) T (Nat.le_refl _) (.slice oz1 T.kids.length cz1) _ W2 (LcIn.below hB2 hz1))
        have HB2 : Hid (Below w.heap.size w W2) := HB.out.trans (hB2.mono HB.out.size)
        obtain ⟨p, hp⟩ : ∃ p, p = T.has x := ⟨_, rfl⟩
        rw [← hp] at HCALL
        have HP := hideT' (And.intro hp hTm)
        unfold lcC at HCALL
        clear hzr hpart hz1 hkj hTm hB2 hp
        go_wp2_with fail
        rw [← hW2]
        refine HCALL.out.mono ?_
        rintro e w9 ⟨rfl, hB9⟩
        have HB9 : Hid (Below w.heap.size w w9) := HB2.out.trans (hB9.mono HB2.out.size)
        clear hB9 hW2 k0 k1 k2
        cases p with
        | true =>
          have HF : Hid (r = true) := by unfold Hid; rw [HR.out, List.any_eq_true]; exact ⟨T, HP.out.2, HP.out.1.symm⟩
          go_wp2
          go_ret
          exact ⟨by rw [HF.out]; rfl, HB9.out⟩
        | false =>
          have HA2 : Hid (t.kids = (As ++ [T]) ++ Bs ∧ ((As ++ [T]).any fun s => s.has x) = false) := ⟨by rw [HA.out.1]; simp, by rw [List.any_append, HA.out.2]; simp [← HP.out.1]⟩
          go_wp2
          go_roundg Bs.length
          case measure => first | omega | (rw [hgg]; simp)
          case rel => exact ⟨As ++ [T], Bs, rfl, HA2, by rw [List.length_append, ← HJ.out]; go_num, HB9⟩
theorem ldHas_all (x : Int) : ∀ N, LdHasC x N := by
  intro N
  induction N using Nat.strongRecOn with
  | _ N IH => exact ldHas_step x N IH
theorem ldHas_any (t : Lm) (z : Value) (x : Int) (P : Nat → Prop) (w : World) (h : LcIn w P t z) : Calls Try.prog 72 #[.agg (lcC t.kd t.nm z), .int .i64 x] w fun e w' => e = .returned (.bool (t.has x)) ∧ Below w.heap.size w w' := ldHas_all x t.sz t (Nat.le_refl _) z P w h
end Go.Proofs.Ytnnhedncdpfiaaa.CB

/-
  What ldAbstract of the model answers.
-/
namespace Go.Proofs.Ytnnhedncdpfiaaa.CB
open Go.RowKit BL
set_option linter.unusedVariables false

def Lm.abs (t : Lm) (x : Int) : Lm := if t.has x = false then .app (.var .k) t else match t with
  | .var _ => .var .i
  | .app a b => if b.isV x && !a.has x then a else .app (.app (.var .s) (a.abs x)) (b.abs x)
theorem Lm.abs_no {t : Lm} {x : Int} (h : t.has x = false) : t.abs x = .app (.var .k) t := by rw [Lm.abs.eq_def, if_pos h]
theorem Lm.abs_var {c : Leaf} {x : Int} (h : (Lm.var c).has x = true) : (Lm.var c).abs x = .var .i := by rw [Lm.abs.eq_def, if_neg (by simp [h])]
theorem Lm.abs_eta {a b : Lm} {x : Int} (h : (Lm.app a b).has x = true) (h2 : (b.isV x && !a.has x) = true) : (Lm.app a b).abs x = a := by rw [Lm.abs.eq_def, if_neg (by simp [h])]; simp only; rw [if_pos h2]
theorem Lm.abs_app {a b : Lm} {x : Int} (h : (Lm.app a b).has x = true) (h2 : (b.isV x && !a.has x) = false) : (Lm.app a b).abs x = .app (.app (.var .s) (a.abs x)) (b.abs x) := by rw [Lm.abs.eq_def, if_neg (by simp [h])]; simp only; rw [if_neg (by simp [h2])]
theorem Lm.abs_sz (x : Int) : ∀ t : Lm, (t.abs x).sz ≤ 4 * t.sz
  | .var c => by
    cases h : (Lm.var c).has x with
    | false => rw [Lm.abs_no h]; simp [Lm.sz]
    | true => rw [Lm.abs_var h]; simp [Lm.sz]
  | .app a b => by
    have ha := Lm.abs_sz x a
    have hb := Lm.abs_sz x b
    have := a.sz_pos
    cases h : (Lm.app a b).has x with
    | false => rw [Lm.abs_no h]; simp only [Lm.sz]; omega
    | true =>
      cases h2 : (b.isV x && !a.has x) with
      | true => rw [Lm.abs_eta h h2]; simp only [Lm.sz]; omega
      | false => rw [Lm.abs_app h h2]; simp only [Lm.sz]; omega
theorem has_kd1 {t : Lm} {x : Int} (h : t.has x = true) : t.kd = 1 ∨ ∃ a b, t = .app a b := by
  cases t with
  | var c => cases c <;> simp [Lm.has, Lm.isV] at h; exact .inl rfl
  | app a b => exact .inr ⟨a, b, rfl⟩
def AbSC (x : Int) (N : Nat) : Prop := ∀ (t : Lm), t.sz ≤ N → ∀ (z : Value) (P : Nat → Prop) (w : World), LcIn w P t z →
    Calls Try.prog 51 #[.agg (lcC t.kd t.nm z), .int .i64 x] w fun e w' => (∃ z', e = .returned (.agg (lcC (t.abs x).kd (t.abs x).nm z')) ∧ LcIn w' (fun y => P y ∨ w.heap.size ≤ y) (t.abs x) z') ∧ Below w.heap.size w w'
set_option maxHeartbeats 8000000 in
set_option maxRecDepth 100000 in
theorem ldAbstract_step (x : Int) (N : Nat) (IH : ∀ n, n < N → AbSC x n) : AbSC x N := by
  intro t ht z P w hz
  have hz0 := zero_lcT.1
  obtain ⟨oz, cz, hzz⟩ := hz.form
  subst hzz
  have HIH := hideT' IH
  have HTN := hideT' ht
  have HZ := hideT' hz
  obtain ⟨W, hWd⟩ : ∃ W, W = (w.alloc (.cells #[.int .i64 t.kd, .int .i64 t.nm, .slice oz t.kids.length cz] 75)).alloc (.cells #[.int .i64 0, .int .i64 0, .slice none 0 0] 75) := ⟨_, rfl⟩
  have hBW : Below w.heap.size w W := by rw [hWd]; exact ((Below.refl _ _).alloc (Nat.le_refl _) _).alloc (by simp) _
  have hWs : w.heap.size + 2 ≤ W.heap.size := by rw [hWd]; simp
  have hR0 : RowAt W w.heap.size 75 #[.int .i64 t.kd, .int .i64 t.nm, .slice oz t.kids.length cz] := by rw [hWd]; exact RowAt.old (RowAt.new _ _ _) _
  have hR2 : RowAt W (w.heap.size + 1) 75 #[.int .i64 0, .int .i64 0, .slice none 0 0] := by
    rw [hWd]
    have := RowAt.new (w.alloc (.cells #[.int .i64 t.kd, .int .i64 t.nm, .slice oz t.kids.length cz] 75)) 75 #[.int .i64 0, .int .i64 0, .slice none 0 0]
    rwa [World.size_alloc] at this
  have HIS := hideT' (ldHas_any t (.slice oz t.kids.length cz) x P W (LcIn.keep (w := w) hBW.size (fun y _ hl => hBW.block y hl) (fun _ h _ => h) hz))
  obtain ⟨r, hr⟩ : ∃ r, r = t.has x := ⟨_, rfl⟩
  rw [← hr] at HIS
  obtain ⟨kd, hkd⟩ : ∃ kd, kd = t.kd := ⟨_, rfl⟩
  obtain ⟨nm, hnm⟩ : ∃ nm, nm = t.nm := ⟨_, rfl⟩
  obtain ⟨q, hq⟩ : ∃ q, q = t.kids.length := ⟨_, rfl⟩
  rw [← hkd, ← hnm, ← hq] at hWd hR0 HIS
  rw [← hq] at HZ
  rw [← hkd, ← hnm, ← hq]
  have HKN := hideT' (And.intro hkd (And.intro hnm hq))
  have HRV := hideT' hr
  have HRS := hideT' (And.intro hR0 hR2)
  have HBW := hideT' hBW
  have HWS := hideT' hWs
  clear IH ht hz hkd hnm hq hr hR0 hR2 hBW hWs
  unfold lcC at HIS ⊢
  go_enter Try.func51, Try.ntmps51
  go_wp2_with fail
  rw [← hWd]
  refine HIS.out.mono ?_
  rintro e W1 ⟨rfl, hB1⟩
  have hs1 := hB1.size
  have HR1 : Hid (RowAt W1 w.heap.size 75 #[.int .i64 kd, .int .i64 nm, .slice oz q cz] ∧ RowAt W1 (w.heap.size + 1) 75 #[.int .i64 0, .int .i64 0, .slice none 0 0]) := ⟨HRS.out.1.below hB1 HRS.out.1.lt, HRS.out.2.below hB1 HRS.out.2.lt⟩
  have HBW1 : Hid (Below w.heap.size w W1) := HBW.out.trans (hB1.mono HBW.out.size)
  have hw3 : w.heap.size + 2 ≤ W1.heap.size := by have := HWS.out; omega
  have r0 : W1.cell? ⟨w.heap.size, 0, none⟩ = some (.int .i64 kd) := by rw [cell_of_row _ _ _ _ _ _ HR1.out.1]; rfl
  have r1 : W1.cell? ⟨w.heap.size, 1, none⟩ = some (.int .i64 nm) := by rw [cell_of_row _ _ _ _ _ _ HR1.out.1]; rfl
  have r2 : W1.cell? ⟨w.heap.size, 2, none⟩ = some (.slice oz q cz) := by rw [cell_of_row _ _ _ _ _ _ HR1.out.1]; rfl
  clear hB1 hWd hs1
  cases r with
  | false =>
    have HE := hideT' (Lm.abs_no HRV.out.symm)
    go_wp2_with fail
    refine held_begin (fun w' => ∀ y, y < W1.heap.size → y ≠ w.heap.size + 1 → w'.heap[y]? = W1.heap[y]?) (by kernel_rfl) ?_
    have hS : ∀ y, y < W1.heap.size → y ≠ w.heap.size + 1 → W1.drew.heap[y]? = W1.heap[y]? := fun _ _ _ => rfl
    refine held_valS 1 (some 12) rfl rfl (by kernel_rfl) (by kernel_rfl) (by kernel_rfl) noPanic_put rfl (.agg (lcC kd nm (.slice oz q cz))) (fun w' h => by unfold lcC; have q0 := ((World.cell?_of_block (w := W1) (a := ⟨w.heap.size, 0, none⟩) (h (w.heap.size) (by omega) (by omega))).trans r0); have q1 := ((World.cell?_of_block (w := W1) (a := ⟨w.heap.size, 1, none⟩) (h (w.heap.size) (by omega) (by omega))).trans r1); have q2 := ((World.cell?_of_block (w := W1) (a := ⟨w.heap.size, 2, none⟩) (h (w.heap.size) (by omega) (by omega))).trans r2); go_simp) hS ?_
    simp only [Act.put, List.setIfInBounds_toArray, List.set_cons_zero, List.set_cons_succ]
    refine held_call 0 (some 11) (by kernel_rfl) rfl rfl rfl 74 #[.int .i64 4] (by go_simp) _ (ldOne_any 4 _) ?_
    rintro e w5 ⟨rfl, hw5⟩
    have hw5 : Below W1.heap.size W1 w5 := ⟨hw5.os, hw5.tape, hw5.output, hw5.size, hw5.block⟩
    have hsz5 := hw5.size
    have hS5 : ∀ y, y < W1.heap.size → y ≠ w.heap.size + 1 → w5.heap[y]? = W1.heap[y]? := fun y hy hn => (hw5.block y (by omega)).trans (hS y hy hn)
    refine ⟨_, rfl, hS5, ?_⟩
    simp only [Act.put, List.setIfInBounds_toArray, List.set_cons_zero, List.set_cons_succ]
    have hz5 : LcIn w5 (fun y => (P y ∧ y < w.heap.size) ∨ W1.heap.size ≤ y) (.var .k) (.slice none 0 0) := ⟨none, 0, rfl⟩
    have hzt5 : LcIn w5 (fun y => (P y ∧ y < w.heap.size) ∨ W1.heap.size ≤ y) t (.slice oz q cz) := LcIn.keep (w := w) (by have := HBW1.out.size; omega) (fun y hy hl => by rw [hw5.block y (by have := HBW1.out.size; omega)]; exact HBW1.out.block y hl) (fun y hy hl => .inl ⟨hy, hl⟩) HZ.out
    have HAP := lcApp_any (.var .k) t _ _ _ w5 hz5 hzt5
    rw [← HKN.out.1, ← HKN.out.2.1] at HAP
    refine held_call 2 (some 13) (by kernel_rfl) rfl rfl rfl 73 #[.agg (lcC 4 0 (.slice none 0 0)), .agg (lcC kd nm (.slice oz q cz))] (by go_simp) _ HAP ?_
    rintro e w6 ⟨⟨z6, rfl, hz6⟩, hw6⟩
    have hsz6 := hw6.size
    have hSl : ∀ y, y < W1.heap.size → y ≠ w.heap.size + 1 → w6.heap[y]? = W1.heap[y]? := fun y hy hn => (hw6.block y (by omega)).trans (hS5 y hy hn)
    refine ⟨_, rfl, hSl, ?_⟩
    simp only [Act.put, List.setIfInBounds_toArray, List.set_cons_zero, List.set_cons_succ]
    obtain ⟨o6, c6, hzz6⟩ := hz6.form
    subst hzz6
    have hRz : RowAt w6 (w.heap.size + 1) 75 #[.int .i64 0, .int .i64 0, .slice none 0 0] := (HR1.out.2.below hw5 (by omega)).below hw6 (by omega)
    refine held_one 3 (by kernel_rfl) rfl rfl ?_
    intro K hK
    refine store_3_wp 75 (.tmp 4) (.tmp 13) rfl rfl zero_lcT.2 (w.heap.size + 1) (lcC 2 0 (.slice o6 (Lm.app (.var .k) t).kids.length c6)) rfl (lcC_one _ _ _ rfl) rfl rfl #[.int .i64 0, .int .i64 0, .slice none 0 0] rfl hRz ?_
    intro w9 hR9 hg9 hs9
    have hS9 : ∀ y, y < W1.heap.size → y ≠ w.heap.size + 1 → w9.heap[y]? = W1.heap[y]? := fun y hy hn => by rw [hg9.block y (by omega) (by intro e; injection e; omega)]; exact hSl y hy hn
    refine hK.out _ _ hS9 ?_
    refine wpAnyH_done (by kernel_rfl) ?_ _
    refine NoPanic.normal ?_
    have HF : Hid (LcIn w9 (fun y => P y ∨ w.heap.size ≤ y) (.app (.var .k) t) (.slice o6 (Lm.app (.var .k) t).kids.length c6) ∧ Below w.heap.size w w9 ∧ RowAt w9 (w.heap.size + 1) 75 (lcC 2 0 (.slice o6 (Lm.app (.var .k) t).kids.length c6))) := by
      refine ⟨LcIn.keep (w := w6) (by omega) (fun y hy hl => hg9.block y hl (by intro e; injection e with e; rcases hy with (hy | hy) | hy <;> omega)) (fun y hy _ => by rcases hy with (hy | hy) | hy; exact .inl hy.1; exact .inr (by omega); exact .inr (by omega)) hz6, ((HBW1.out.trans (hw5.mono HBW1.out.size)).trans (hw6.mono (by omega))).grown hg9 (by omega) (by intro k hk; cases hk; omega), hR9⟩
    clear hK hS hS5 hSl hS9 hz5 hzt5 hz6 hw5 hw6 hg9 hR9 hRz HAP
    go_wp2
    exact bodyPost_ret (v := .agg (lcC 2 0 (.slice o6 (Lm.app (.var .k) t).kids.length c6))) (results_cell_row Try.results51 _ _ (w.heap.size + 1) 75 (lcC 2 0 (.slice o6 (Lm.app (.var .k) t).kids.length c6)) (0, 0) _ rfl HF.out.2.2 Try.underlying75 rfl zero_lcT.2) rfl ⟨⟨_, by rw [HE.out]; rfl, by rw [HE.out]; exact HF.out.1⟩, HF.out.2.1⟩
  | true =>
    rcases has_kd1 HRV.out.symm with hk1 | ⟨a, b, hab⟩
    · have HE : Hid (t.abs x = .var .i) := by
        unfold Hid
        cases t with
        | var c => exact Lm.abs_var HRV.out.symm
        | app a b => simp [Lm.kd] at hk1
      have hk : kd = 1 := by rw [HKN.out.1, hk1]
      subst hk
      clear hk1
      go_wp2_with fail
      refine (ldOne_any 5 _).mono ?_
      rintro e w5 ⟨rfl, hB5⟩
      have HRZ : Hid (RowAt w5 (w.heap.size + 1) 75 #[.int .i64 0, .int .i64 0, .slice none 0 0]) := HR1.out.2.below hB5 (by omega)
      have HB5 := hideT' hB5
      clear hB5
      go_wp2_with (refine store_3 rfl 75 _ _ rfl rfl zero_lcT.2 (w.heap.size + 1) (lcC 5 0 (.slice none 0 0)) rfl (lcC_one _ _ _ rfl) rfl rfl _ rfl HRZ.out ?_; intro w9 hR9 hg9 hs9)
      exact bodyPost_ret (v := .agg (lcC 5 0 (.slice none 0 0))) (results_cell_row Try.results51 _ _ (w.heap.size + 1) 75 (lcC 5 0 (.slice none 0 0)) (0, 0) _ rfl hR9 Try.underlying75 rfl zero_lcT.2) rfl ⟨⟨_, by rw [HE.out]; rfl, by rw [HE.out]; exact ⟨none, 0, rfl⟩⟩, (HBW1.out.trans (HB5.out.mono HBW1.out.size)).grown hg9 (by have := HBW1.out.size; have := HB5.out.size; omega) (by intro k hk; cases hk; omega)⟩
    · subst hab
      have hk : kd = 2 := HKN.out.1
      subst hk
      have hq : q = 2 := HKN.out.2.2
      subst hq
      obtain ⟨g, c, z1, z2, e1, hg, ⟨a0, a1, a2⟩, ⟨b0, b1, b2⟩, hza, hzb⟩ := HZ.out
      injection e1 with e1 e2 e3
      subst e1
      clear e2 e3
      obtain ⟨oa, ca, hzza⟩ := hza.form
      subst hzza
      obtain ⟨ob, cb, hzzb⟩ := hzb.form
      subst hzzb
      have hgl := hg.1
      have hgW : g < W1.heap.size := by omega
      have a0 : W1.cell? ⟨g, 0, none⟩ = some (.int .i64 a.kd) := by rw [HBW1.out.cell (p := ⟨g, 0, none⟩) hgl]; exact a0
      have a1 : W1.cell? ⟨g, 1, none⟩ = some (.int .i64 a.nm) := by rw [HBW1.out.cell (p := ⟨g, 1, none⟩) hgl]; exact a1
      have a2 : W1.cell? ⟨g, 2, none⟩ = some (.slice oa a.kids.length ca) := by rw [HBW1.out.cell (p := ⟨g, 2, none⟩) hgl]; exact a2
      have b0 : W1.cell? ⟨g, 3, none⟩ = some (.int .i64 b.kd) := by rw [HBW1.out.cell (p := ⟨g, 3, none⟩) hgl]; exact b0
      have b1 : W1.cell? ⟨g, 4, none⟩ = some (.int .i64 b.nm) := by rw [HBW1.out.cell (p := ⟨g, 4, none⟩) hgl]; exact b1
      have b2 : W1.cell? ⟨g, 5, none⟩ = some (.slice ob b.kids.length cb) := by rw [HBW1.out.cell (p := ⟨g, 5, none⟩) hgl]; exact b2
      obtain ⟨W6, hW6⟩ : ∃ W6, W6 = (W1.alloc (.cells #[.int .i64 a.kd, .int .i64 a.nm, .slice oa a.kids.length ca] 75)).alloc (.cells #[.int .i64 b.kd, .int .i64 b.nm, .slice ob b.kids.length cb] 75) := ⟨_, rfl⟩
      obtain ⟨B5, hB5e⟩ : ∃ B5, B5 = W1.heap.size := ⟨_, rfl⟩
      obtain ⟨B6, hB6e⟩ : ∃ B6, B6 = W1.heap.size + 1 := ⟨_, rfl⟩
      have hB16 : Below W1.heap.size W1 W6 := by rw [hW6]; exact ((Below.refl _ _).alloc (Nat.le_refl _) _).alloc (by simp) _
      have hs6 : W6.heap.size = W1.heap.size + 2 := by rw [hW6]; simp
      have hRa : RowAt W6 B5 75 #[.int .i64 a.kd, .int .i64 a.nm, .slice oa a.kids.length ca] := by rw [hW6, hB5e]; exact RowAt.old (RowAt.new _ _ _) _
      have hRb : RowAt W6 B6 75 #[.int .i64 b.kd, .int .i64 b.nm, .slice ob b.kids.length cb] := by
        rw [hW6, hB6e]
        have := RowAt.new (W1.alloc (.cells #[.int .i64 a.kd, .int .i64 a.nm, .slice oa a.kids.length ca] 75)) 75 #[.int .i64 b.kd, .int .i64 b.nm, .slice ob b.kids.length cb]
        rwa [World.size_alloc] at this
      have hBw6 : Below w.heap.size w W6 := HBW1.out.trans (hB16.mono HBW1.out.size)
      have HIB := hideT' (ldIs_any b (.slice ob b.kids.length cb) x P W6 (LcIn.keep (w := w) hBw6.size (fun y _ hl => hBw6.block y hl) (fun _ h _ => h) hzb))
      obtain ⟨rb, hrb⟩ : ∃ rb, rb = b.isV x := ⟨_, rfl⟩
      rw [← hrb] at HIB
      have HRB := hideT' hrb
      have HBS : Hid (w.heap.size + 2 ≤ B5 ∧ B5 < B6 ∧ B6 < W6.heap.size) := by unfold Hid; omega
      have HBW6 := hideT' hBw6
      have HRAB := hideT' (And.intro hRa (And.intro hRb (HR1.out.2.below hB16 (by omega))))
      have HZAB := hideT' (And.intro hza hzb)
      unfold lcC at HIB
      have hlw : w.heap.size < W1.heap.size := by omega
      have HB5E := hideT' hB5e
      have HB6E := hideT' hB6e
      clear hza hzb hB16 hs6 hRa hRb hBw6 hrb hB5e hB6e
      go_wp2_with fail
      rw [← hW6]
      refine HIB.out.mono ?_
      rintro e w7 ⟨rfl, hB7⟩
      rw [← HB6E.out, ← HB5E.out]
      have hs7 := hB7.size
      have HR7 : Hid (RowAt w7 B5 75 #[.int .i64 a.kd, .int .i64 a.nm, .slice oa a.kids.length ca] ∧ RowAt w7 B6 75 #[.int .i64 b.kd, .int .i64 b.nm, .slice ob b.kids.length cb] ∧ RowAt w7 (w.heap.size + 1) 75 #[.int .i64 0, .int .i64 0, .slice none 0 0]) := ⟨HRAB.out.1.below hB7 HRAB.out.1.lt, HRAB.out.2.1.below hB7 HRAB.out.2.1.lt, HRAB.out.2.2.below hB7 HRAB.out.2.2.lt⟩
      have HBW7 : Hid (Below w.heap.size w w7) := HBW6.out.trans (hB7.mono HBW6.out.size)
      have HBS7 : Hid (w.heap.size + 2 ≤ B5 ∧ B5 < B6 ∧ B6 < w7.heap.size) := by have := HBS.out; unfold Hid; omega
      clear hB7 hs7 hW6 hlw a0 a1 a2 b0 b1 b2 r0 r1 r2
      have a0 : w7.cell? ⟨B5, 0, none⟩ = some (.int .i64 a.kd) := by rw [cell_of_row _ _ _ _ _ _ HR7.out.1]; rfl
      have a1 : w7.cell? ⟨B5, 1, none⟩ = some (.int .i64 a.nm) := by rw [cell_of_row _ _ _ _ _ _ HR7.out.1]; rfl
      have a2 : w7.cell? ⟨B5, 2, none⟩ = some (.slice oa a.kids.length ca) := by rw [cell_of_row _ _ _ _ _ _ HR7.out.1]; rfl
      cases rb with
      | true =>
        have HIA := hideT' (ldHas_any a (.slice oa a.kids.length ca) x P w7 (LcIn.keep (w := w) HBW7.out.size (fun y _ hl => HBW7.out.block y hl) (fun _ h _ => h) HZAB.out.1))
        obtain ⟨ra, hra⟩ : ∃ ra, ra = a.has x := ⟨_, rfl⟩
        rw [← hra] at HIA
        have HRA := hideT' hra
        unfold lcC at HIA
        clear hra
        go_wp2_with fail
        refine HIA.out.mono ?_
        rintro e w8 ⟨rfl, hB8⟩
        have hs8 := hB8.size
        have HR8 : Hid (RowAt w8 B5 75 #[.int .i64 a.kd, .int .i64 a.nm, .slice oa a.kids.length ca] ∧ RowAt w8 B6 75 #[.int .i64 b.kd, .int .i64 b.nm, .slice ob b.kids.length cb] ∧ RowAt w8 (w.heap.size + 1) 75 #[.int .i64 0, .int .i64 0, .slice none 0 0]) := ⟨HR7.out.1.below hB8 HR7.out.1.lt, HR7.out.2.1.below hB8 HR7.out.2.1.lt, HR7.out.2.2.below hB8 HR7.out.2.2.lt⟩
        have HBW8 : Hid (Below w.heap.size w w8) := HBW7.out.trans (hB8.mono HBW7.out.size)
        have HBS8 : Hid (w.heap.size + 2 ≤ B5 ∧ B5 < B6 ∧ B6 < w8.heap.size) := by have := HBS7.out; unfold Hid; omega
        clear hB8 hs8 a0 a1 a2
        cases ra with
        | false =>
          have HE : Hid ((Lm.app a b).abs x = a) := Lm.abs_eta HRV.out.symm (by rw [← HRB.out, ← HRA.out]; rfl)
          go_wp2_with (first | (refine wpList_load_row rfl 75 _ rfl B5 rfl 75 #[.int .i64 a.kd, .int .i64 a.nm, .slice oa a.kids.length ca] (0, 0) _ HR8.out.1 Try.underlying75 rfl zero_lcT.2 ?_) | (refine store_3 rfl 75 _ _ rfl rfl zero_lcT.2 (w.heap.size + 1) (lcC a.kd a.nm (.slice oa a.kids.length ca)) rfl (lcC_one _ _ _ rfl) rfl rfl _ rfl HR8.out.2.2 ?_; intro w9 hR9 hg9 hs9))
          have hb8 := HBW8.out.size
          refine bodyPost_ret (v := .agg (lcC a.kd a.nm (.slice oa a.kids.length ca))) (results_cell_row Try.results51 _ _ (w.heap.size + 1) 75 (lcC a.kd a.nm (.slice oa a.kids.length ca)) (0, 0) _ rfl hR9 Try.underlying75 rfl zero_lcT.2) rfl ⟨⟨.slice oa a.kids.length ca, by rw [HE.out]; rfl, ?_⟩, HBW8.out.grown hg9 hb8 (by intro k hk; cases hk; omega)⟩
          rw [HE.out]
          refine LcIn.keep (w := w) (by omega) (fun y hy hl => ?_) (fun y hy _ => .inl hy) HZAB.out.1
          rw [hg9.block y (by omega) (by intro e; injection e with e; omega)]
          exact HBW8.out.block y hl
        | true =>
        have HE : Hid ((Lm.app a b).abs x = .app (.app (.var .s) (a.abs x)) (b.abs x)) := Lm.abs_app HRV.out.symm (by rw [← HRB.out, ← HRA.out]; rfl)
        clear HIA
        obtain ⟨W9, hW9⟩ : ∃ W9, W9 = w8 := ⟨_, rfl⟩
        have HRZ9 : Hid (RowAt W9 (w.heap.size + 1) 75 #[.int .i64 0, .int .i64 0, .slice none 0 0]) := by unfold Hid; rw [hW9]; exact HR8.out.2.2
        have HBW9 : Hid (Below w.heap.size w W9) := by unfold Hid; rw [hW9]; exact HBW8.out
        obtain ⟨h51, h52, h53⟩ : w.heap.size + 2 ≤ B5 ∧ B5 < B6 ∧ B6 < W9.heap.size := by rw [hW9]; exact HBS8.out
        have a0 : W9.cell? ⟨B5, 0, none⟩ = some (.int .i64 a.kd) := by rw [hW9, cell_of_row _ _ _ _ _ _ HR8.out.1]; rfl
        have a1 : W9.cell? ⟨B5, 1, none⟩ = some (.int .i64 a.nm) := by rw [hW9, cell_of_row _ _ _ _ _ _ HR8.out.1]; rfl
        have a2 : W9.cell? ⟨B5, 2, none⟩ = some (.slice oa a.kids.length ca) := by rw [hW9, cell_of_row _ _ _ _ _ _ HR8.out.1]; rfl
        have b0 : W9.cell? ⟨B6, 0, none⟩ = some (.int .i64 b.kd) := by rw [hW9, cell_of_row _ _ _ _ _ _ HR8.out.2.1]; rfl
        have b1 : W9.cell? ⟨B6, 1, none⟩ = some (.int .i64 b.nm) := by rw [hW9, cell_of_row _ _ _ _ _ _ HR8.out.2.1]; rfl
        have b2 : W9.cell? ⟨B6, 2, none⟩ = some (.slice ob b.kids.length cb) := by rw [hW9, cell_of_row _ _ _ _ _ _ HR8.out.2.1]; rfl
        have HCC : Hid (∀ t' o' c', t'.sz < (Lm.app a b).sz → LcIn w P t' (.slice o' t'.kids.length c') → ∀ w', Below W9.heap.size W9 w' → Calls Try.prog 51 #[.agg (lcC t'.kd t'.nm (.slice o' t'.kids.length c')), .int .i64 x] w' fun e w'' => (∃ z', e = .returned (.agg (lcC (t'.abs x).kd (t'.abs x).nm z')) ∧ LcIn w'' (fun y => (P y ∧ y < w.heap.size) ∨ w'.heap.size ≤ y) (t'.abs x) z') ∧ Below w'.heap.size w' w'') := by
          intro t' o' c' ht' hz' w' hB'
          have hBB := HBW9.out.trans (hB'.mono HBW9.out.size)
          exact HIH.out t'.sz (by have := HTN.out; omega) t' (Nat.le_refl _) (.slice o' t'.kids.length c') (fun y => P y ∧ y < w.heap.size) w' (LcIn.keep (w := w) hBB.size (fun y _ hl => hBB.block y hl) (fun y h hl => ⟨h, hl⟩) hz')
        have HCA := hideT' (HCC.out a oa ca (by simp only [Lm.sz]; omega) HZAB.out.1)
        have HCB := hideT' (HCC.out b ob cb (by simp only [Lm.sz]; omega) HZAB.out.2)
        rw [← hW9]
        clear hW9 HCC
        go_wp2_with fail
        refine held_begin (fun w' => ∀ y, y < W9.heap.size → y ≠ w.heap.size + 1 → w'.heap[y]? = W9.heap[y]?) (by kernel_rfl) ?_
        have hS : ∀ y, y < W9.heap.size → y ≠ w.heap.size + 1 → W9.drew.heap[y]? = W9.heap[y]? := fun _ _ _ => rfl
        refine held_valS 1 (some 37) rfl rfl (by kernel_rfl) (by kernel_rfl) (by kernel_rfl) noPanic_put rfl (.agg (lcC a.kd a.nm (.slice oa a.kids.length ca))) (fun w' h => by unfold lcC; have q0 := ((World.cell?_of_block (w := W9) (a := ⟨B5, 0, none⟩) (h (B5) (by omega) (by omega))).trans a0); have q1 := ((World.cell?_of_block (w := W9) (a := ⟨B5, 1, none⟩) (h (B5) (by omega) (by omega))).trans a1); have q2 := ((World.cell?_of_block (w := W9) (a := ⟨B5, 2, none⟩) (h (B5) (by omega) (by omega))).trans a2); go_simp) hS ?_
        simp only [Act.put, List.setIfInBounds_toArray, List.set_cons_zero, List.set_cons_succ]
        refine held_valS 2 (some 38) rfl rfl (by kernel_rfl) (by kernel_rfl) (by kernel_rfl) noPanic_put rfl (.int .i64 x) (fun _ _ => by go_simp) hS ?_
        simp only [Act.put, List.setIfInBounds_toArray, List.set_cons_zero, List.set_cons_succ]
        refine held_valS 5 (some 41) rfl rfl (by kernel_rfl) (by kernel_rfl) (by kernel_rfl) noPanic_put rfl (.agg (lcC b.kd b.nm (.slice ob b.kids.length cb))) (fun w' h => by unfold lcC; have q0 := ((World.cell?_of_block (w := W9) (a := ⟨B6, 0, none⟩) (h (B6) (by omega) (by omega))).trans b0); have q1 := ((World.cell?_of_block (w := W9) (a := ⟨B6, 1, none⟩) (h (B6) (by omega) (by omega))).trans b1); have q2 := ((World.cell?_of_block (w := W9) (a := ⟨B6, 2, none⟩) (h (B6) (by omega) (by omega))).trans b2); go_simp) hS ?_
        simp only [Act.put, List.setIfInBounds_toArray, List.set_cons_zero, List.set_cons_succ]
        refine held_valS 6 (some 42) rfl rfl (by kernel_rfl) (by kernel_rfl) (by kernel_rfl) noPanic_put rfl (.int .i64 x) (fun _ _ => by go_simp) hS ?_
        simp only [Act.put, List.setIfInBounds_toArray, List.set_cons_zero, List.set_cons_succ]
        refine held_call 0 (some 36) (by kernel_rfl) rfl rfl rfl 74 #[.int .i64 3] (by go_simp) _ (ldOne_any 3 _) ?_
        rintro e w5 ⟨rfl, hw5⟩
        have hw5 : Below W9.heap.size W9 w5 := ⟨hw5.os, hw5.tape, hw5.output, hw5.size, hw5.block⟩
        have hsz5 := hw5.size
        have hS5 : ∀ y, y < W9.heap.size → y ≠ w.heap.size + 1 → w5.heap[y]? = W9.heap[y]? := fun y hy hn => (hw5.block y (by omega)).trans (hS y hy hn)
        refine ⟨_, rfl, hS5, ?_⟩
        simp only [Act.put, List.setIfInBounds_toArray, List.set_cons_zero, List.set_cons_succ]
        refine held_call 3 (some 39) (by kernel_rfl) rfl rfl rfl 51 #[.agg (lcC a.kd a.nm (.slice oa a.kids.length ca)), .int .i64 x] (by go_simp) _ (HCA.out w5 hw5) ?_
        rintro e w6 ⟨⟨z6, rfl, hz6⟩, hw6⟩
        have hsz6 := hw6.size
        have hS6 : ∀ y, y < W9.heap.size → y ≠ w.heap.size + 1 → w6.heap[y]? = W9.heap[y]? := fun y hy hn => (hw6.block y (by omega)).trans (hS5 y hy hn)
        refine ⟨_, rfl, hS6, ?_⟩
        simp only [Act.put, List.setIfInBounds_toArray, List.set_cons_zero, List.set_cons_succ]
        obtain ⟨o6, c6, hzz6⟩ := hz6.form
        subst hzz6
        have hz6' : LcIn w6 (fun y => (P y ∧ y < w.heap.size) ∨ W9.heap.size ≤ y) (a.abs x) (.slice o6 (a.abs x).kids.length c6) := LcIn.mono (fun y hy _ => hy.imp id (fun h => by omega)) hz6
        have hzs : LcIn w6 (fun y => (P y ∧ y < w.heap.size) ∨ W9.heap.size ≤ y) (.var .s) (.slice none 0 0) := ⟨none, 0, rfl⟩
        refine held_call 4 (some 40) (by kernel_rfl) rfl rfl rfl 73 #[.agg (lcC 3 0 (.slice none 0 0)), .agg (lcC (a.abs x).kd (a.abs x).nm (.slice o6 (a.abs x).kids.length c6))] (by go_simp) _ (lcApp_any (.var .s) (a.abs x) _ _ _ w6 hzs hz6') ?_
        rintro e w7 ⟨⟨z7, rfl, hz7⟩, hw7⟩
        have hsz7 := hw7.size
        have hS7 : ∀ y, y < W9.heap.size → y ≠ w.heap.size + 1 → w7.heap[y]? = W9.heap[y]? := fun y hy hn => (hw7.block y (by omega)).trans (hS6 y hy hn)
        refine ⟨_, rfl, hS7, ?_⟩
        simp only [Act.put, List.setIfInBounds_toArray, List.set_cons_zero, List.set_cons_succ]
        obtain ⟨o7, c7, hzz7⟩ := hz7.form
        subst hzz7
        have hw79 : Below W9.heap.size W9 w7 := (hw5.trans (hw6.mono (by omega))).trans (hw7.mono (by omega))
        refine held_call 7 (some 43) (by kernel_rfl) rfl rfl rfl 51 #[.agg (lcC b.kd b.nm (.slice ob b.kids.length cb)), .int .i64 x] (by go_simp) _ (HCB.out w7 hw79) ?_
        rintro e w8 ⟨⟨z8, rfl, hz8⟩, hw8⟩
        have hsz8 := hw8.size
        have hS8 : ∀ y, y < W9.heap.size → y ≠ w.heap.size + 1 → w8.heap[y]? = W9.heap[y]? := fun y hy hn => (hw8.block y (by omega)).trans (hS7 y hy hn)
        refine ⟨_, rfl, hS8, ?_⟩
        simp only [Act.put, List.setIfInBounds_toArray, List.set_cons_zero, List.set_cons_succ]
        obtain ⟨o8, c8, hzz8⟩ := hz8.form
        subst hzz8
        have hz7' : LcIn w8 (fun y => (P y ∧ y < w.heap.size) ∨ W9.heap.size ≤ y) (Lm.app (.var .s) (a.abs x)) (.slice o7 (Lm.app (.var .s) (a.abs x)).kids.length c7) := LcIn.mono (fun y hy _ => by rcases hy with (hy | hy) | hy; exact .inl hy; exact .inr hy; exact .inr (by omega)) (LcIn.below hw8 hz7)
        have hz8' : LcIn w8 (fun y => (P y ∧ y < w.heap.size) ∨ W9.heap.size ≤ y) (b.abs x) (.slice o8 (b.abs x).kids.length c8) := LcIn.mono (fun y hy _ => hy.imp id (fun h => by omega)) hz8
        refine held_call 8 (some 44) (by kernel_rfl) rfl rfl rfl 73 #[.agg (lcC 2 0 (.slice o7 (Lm.app (.var .s) (a.abs x)).kids.length c7)), .agg (lcC (b.abs x).kd (b.abs x).nm (.slice o8 (b.abs x).kids.length c8))] (by go_simp) _ (lcApp_any (Lm.app (.var .s) (a.abs x)) (b.abs x) _ _ _ w8 hz7' hz8') ?_
        rintro e w10 ⟨⟨z10, rfl, hz10⟩, hw10⟩
        have hsz10 := hw10.size
        have hSl : ∀ y, y < W9.heap.size → y ≠ w.heap.size + 1 → w10.heap[y]? = W9.heap[y]? := fun y hy hn => (hw10.block y (by omega)).trans (hS8 y hy hn)
        refine ⟨_, rfl, hSl, ?_⟩
        simp only [Act.put, List.setIfInBounds_toArray, List.set_cons_zero, List.set_cons_succ]
        obtain ⟨o10, c10, hzz10⟩ := hz10.form
        subst hzz10
        have hRz : RowAt w10 (w.heap.size + 1) 75 #[.int .i64 0, .int .i64 0, .slice none 0 0] := (((HRZ9.out.below hw79 (by omega)).below hw8 (by omega))).below hw10 (by omega)
        refine held_one 9 (by kernel_rfl) rfl rfl ?_
        intro K hK
        refine store_3_wp 75 (.tmp 4) (.tmp 44) rfl rfl zero_lcT.2 (w.heap.size + 1) (lcC 2 0 (.slice o10 (Lm.app (Lm.app (.var .s) (a.abs x)) (b.abs x)).kids.length c10)) rfl (lcC_one _ _ _ rfl) rfl rfl #[.int .i64 0, .int .i64 0, .slice none 0 0] rfl hRz ?_
        intro w9 hR9 hg9 hs9
        have hS9 : ∀ y, y < W9.heap.size → y ≠ w.heap.size + 1 → w9.heap[y]? = W9.heap[y]? := fun y hy hn => by rw [hg9.block y (by omega) (by intro e; injection e; omega)]; exact hSl y hy hn
        refine hK.out _ _ hS9 ?_
        refine wpAnyH_done (by kernel_rfl) ?_ _
        refine NoPanic.normal ?_
        have HF : Hid (LcIn w9 (fun y => P y ∨ w.heap.size ≤ y) (.app (.app (.var .s) (a.abs x)) (b.abs x)) (.slice o10 (Lm.app (Lm.app (.var .s) (a.abs x)) (b.abs x)).kids.length c10) ∧ Below w.heap.size w w9 ∧ RowAt w9 (w.heap.size + 1) 75 (lcC 2 0 (.slice o10 (Lm.app (Lm.app (.var .s) (a.abs x)) (b.abs x)).kids.length c10))) := by
          refine ⟨LcIn.keep (w := w10) (by omega) (fun y hy hl => hg9.block y hl (by intro e; injection e with e; rcases hy with (hy | hy) | hy <;> omega)) (fun y hy _ => by rcases hy with (hy | hy) | hy; exact .inl hy.1; exact .inr (by omega); exact .inr (by omega)) hz10, (((HBW9.out.trans (hw79.mono HBW9.out.size)).trans (hw8.mono (by have := HBW9.out.size; omega))).trans (hw10.mono (by have := HBW9.out.size; omega))).grown hg9 (by have := HBW9.out.size; omega) (by intro k hk; cases hk; omega), hR9⟩
        clear hK hS hS5 hS6 hS7 hS8 hSl hS9 hz6 hz6' hzs hz7 hz7' hz8 hz8' hz10 hw5 hw6 hw7 hw8 hw79 hw10 hg9 hR9 hRz
        go_wp2
        exact bodyPost_ret (v := .agg (lcC 2 0 (.slice o10 (Lm.app (Lm.app (.var .s) (a.abs x)) (b.abs x)).kids.length c10))) (results_cell_row Try.results51 _ _ (w.heap.size + 1) 75 (lcC 2 0 (.slice o10 (Lm.app (Lm.app (.var .s) (a.abs x)) (b.abs x)).kids.length c10)) (0, 0) _ rfl HF.out.2.2 Try.underlying75 rfl zero_lcT.2) rfl ⟨⟨_, by rw [HE.out]; rfl, by rw [HE.out]; exact HF.out.1⟩, HF.out.2.1⟩
      | false =>
        have HE : Hid ((Lm.app a b).abs x = .app (.app (.var .s) (a.abs x)) (b.abs x)) := Lm.abs_app HRV.out.symm (by rw [← HRB.out]; rfl)
        clear a0 a1 a2
        obtain ⟨W9, hW9⟩ : ∃ W9, W9 = w7 := ⟨_, rfl⟩
        have HRZ9 : Hid (RowAt W9 (w.heap.size + 1) 75 #[.int .i64 0, .int .i64 0, .slice none 0 0]) := by unfold Hid; rw [hW9]; exact HR7.out.2.2
        have HBW9 : Hid (Below w.heap.size w W9) := by unfold Hid; rw [hW9]; exact HBW7.out
        obtain ⟨h51, h52, h53⟩ : w.heap.size + 2 ≤ B5 ∧ B5 < B6 ∧ B6 < W9.heap.size := by rw [hW9]; exact HBS7.out
        have a0 : W9.cell? ⟨B5, 0, none⟩ = some (.int .i64 a.kd) := by rw [hW9, cell_of_row _ _ _ _ _ _ HR7.out.1]; rfl
        have a1 : W9.cell? ⟨B5, 1, none⟩ = some (.int .i64 a.nm) := by rw [hW9, cell_of_row _ _ _ _ _ _ HR7.out.1]; rfl
        have a2 : W9.cell? ⟨B5, 2, none⟩ = some (.slice oa a.kids.length ca) := by rw [hW9, cell_of_row _ _ _ _ _ _ HR7.out.1]; rfl
        have b0 : W9.cell? ⟨B6, 0, none⟩ = some (.int .i64 b.kd) := by rw [hW9, cell_of_row _ _ _ _ _ _ HR7.out.2.1]; rfl
        have b1 : W9.cell? ⟨B6, 1, none⟩ = some (.int .i64 b.nm) := by rw [hW9, cell_of_row _ _ _ _ _ _ HR7.out.2.1]; rfl
        have b2 : W9.cell? ⟨B6, 2, none⟩ = some (.slice ob b.kids.length cb) := by rw [hW9, cell_of_row _ _ _ _ _ _ HR7.out.2.1]; rfl
        have HCC : Hid (∀ t' o' c', t'.sz < (Lm.app a b).sz → LcIn w P t' (.slice o' t'.kids.length c') → ∀ w', Below W9.heap.size W9 w' → Calls Try.prog 51 #[.agg (lcC t'.kd t'.nm (.slice o' t'.kids.length c')), .int .i64 x] w' fun e w'' => (∃ z', e = .returned (.agg (lcC (t'.abs x).kd (t'.abs x).nm z')) ∧ LcIn w'' (fun y => (P y ∧ y < w.heap.size) ∨ w'.heap.size ≤ y) (t'.abs x) z') ∧ Below w'.heap.size w' w'') := by
          intro t' o' c' ht' hz' w' hB'
          have hBB := HBW9.out.trans (hB'.mono HBW9.out.size)
          exact HIH.out t'.sz (by have := HTN.out; omega) t' (Nat.le_refl _) (.slice o' t'.kids.length c') (fun y => P y ∧ y < w.heap.size) w' (LcIn.keep (w := w) hBB.size (fun y _ hl => hBB.block y hl) (fun y h hl => ⟨h, hl⟩) hz')
        have HCA := hideT' (HCC.out a oa ca (by simp only [Lm.sz]; omega) HZAB.out.1)
        have HCB := hideT' (HCC.out b ob cb (by simp only [Lm.sz]; omega) HZAB.out.2)
        rw [← hW9]
        clear hW9 HCC
        go_wp2_with fail
        refine held_begin (fun w' => ∀ y, y < W9.heap.size → y ≠ w.heap.size + 1 → w'.heap[y]? = W9.heap[y]?) (by kernel_rfl) ?_
        have hS : ∀ y, y < W9.heap.size → y ≠ w.heap.size + 1 → W9.drew.heap[y]? = W9.heap[y]? := fun _ _ _ => rfl
        refine held_valS 1 (some 37) rfl rfl (by kernel_rfl) (by kernel_rfl) (by kernel_rfl) noPanic_put rfl (.agg (lcC a.kd a.nm (.slice oa a.kids.length ca))) (fun w' h => by unfold lcC; have q0 := ((World.cell?_of_block (w := W9) (a := ⟨B5, 0, none⟩) (h (B5) (by omega) (by omega))).trans a0); have q1 := ((World.cell?_of_block (w := W9) (a := ⟨B5, 1, none⟩) (h (B5) (by omega) (by omega))).trans a1); have q2 := ((World.cell?_of_block (w := W9) (a := ⟨B5, 2, none⟩) (h (B5) (by omega) (by omega))).trans a2); go_simp) hS ?_
        simp only [Act.put, List.setIfInBounds_toArray, List.set_cons_zero, List.set_cons_succ]
        refine held_valS 2 (some 38) rfl rfl (by kernel_rfl) (by kernel_rfl) (by kernel_rfl) noPanic_put rfl (.int .i64 x) (fun _ _ => by go_simp) hS ?_
        simp only [Act.put, List.setIfInBounds_toArray, List.set_cons_zero, List.set_cons_succ]
        refine held_valS 5 (some 41) rfl rfl (by kernel_rfl) (by kernel_rfl) (by kernel_rfl) noPanic_put rfl (.agg (lcC b.kd b.nm (.slice ob b.kids.length cb))) (fun w' h => by unfold lcC; have q0 := ((World.cell?_of_block (w := W9) (a := ⟨B6, 0, none⟩) (h (B6) (by omega) (by omega))).trans b0); have q1 := ((World.cell?_of_block (w := W9) (a := ⟨B6, 1, none⟩) (h (B6) (by omega) (by omega))).trans b1); have q2 := ((World.cell?_of_block (w := W9) (a := ⟨B6, 2, none⟩) (h (B6) (by omega) (by omega))).trans b2); go_simp) hS ?_
        simp only [Act.put, List.setIfInBounds_toArray, List.set_cons_zero, List.set_cons_succ]
        refine held_valS 6 (some 42) rfl rfl (by kernel_rfl) (by kernel_rfl) (by kernel_rfl) noPanic_put rfl (.int .i64 x) (fun _ _ => by go_simp) hS ?_
        simp only [Act.put, List.setIfInBounds_toArray, List.set_cons_zero, List.set_cons_succ]
        refine held_call 0 (some 36) (by kernel_rfl) rfl rfl rfl 74 #[.int .i64 3] (by go_simp) _ (ldOne_any 3 _) ?_
        rintro e w5 ⟨rfl, hw5⟩
        have hw5 : Below W9.heap.size W9 w5 := ⟨hw5.os, hw5.tape, hw5.output, hw5.size, hw5.block⟩
        have hsz5 := hw5.size
        have hS5 : ∀ y, y < W9.heap.size → y ≠ w.heap.size + 1 → w5.heap[y]? = W9.heap[y]? := fun y hy hn => (hw5.block y (by omega)).trans (hS y hy hn)
        refine ⟨_, rfl, hS5, ?_⟩
        simp only [Act.put, List.setIfInBounds_toArray, List.set_cons_zero, List.set_cons_succ]
        refine held_call 3 (some 39) (by kernel_rfl) rfl rfl rfl 51 #[.agg (lcC a.kd a.nm (.slice oa a.kids.length ca)), .int .i64 x] (by go_simp) _ (HCA.out w5 hw5) ?_
        rintro e w6 ⟨⟨z6, rfl, hz6⟩, hw6⟩
        have hsz6 := hw6.size
        have hS6 : ∀ y, y < W9.heap.size → y ≠ w.heap.size + 1 → w6.heap[y]? = W9.heap[y]? := fun y hy hn => (hw6.block y (by omega)).trans (hS5 y hy hn)
        refine ⟨_, rfl, hS6, ?_⟩
        simp only [Act.put, List.setIfInBounds_toArray, List.set_cons_zero, List.set_cons_succ]
        obtain ⟨o6, c6, hzz6⟩ := hz6.form
        subst hzz6
        have hz6' : LcIn w6 (fun y => (P y ∧ y < w.heap.size) ∨ W9.heap.size ≤ y) (a.abs x) (.slice o6 (a.abs x).kids.length c6) := LcIn.mono (fun y hy _ => hy.imp id (fun h => by omega)) hz6
        have hzs : LcIn w6 (fun y => (P y ∧ y < w.heap.size) ∨ W9.heap.size ≤ y) (.var .s) (.slice none 0 0) := ⟨none, 0, rfl⟩
        refine held_call 4 (some 40) (by kernel_rfl) rfl rfl rfl 73 #[.agg (lcC 3 0 (.slice none 0 0)), .agg (lcC (a.abs x).kd (a.abs x).nm (.slice o6 (a.abs x).kids.length c6))] (by go_simp) _ (lcApp_any (.var .s) (a.abs x) _ _ _ w6 hzs hz6') ?_
        rintro e w7 ⟨⟨z7, rfl, hz7⟩, hw7⟩
        have hsz7 := hw7.size
        have hS7 : ∀ y, y < W9.heap.size → y ≠ w.heap.size + 1 → w7.heap[y]? = W9.heap[y]? := fun y hy hn => (hw7.block y (by omega)).trans (hS6 y hy hn)
        refine ⟨_, rfl, hS7, ?_⟩
        simp only [Act.put, List.setIfInBounds_toArray, List.set_cons_zero, List.set_cons_succ]
        obtain ⟨o7, c7, hzz7⟩ := hz7.form
        subst hzz7
        have hw79 : Below W9.heap.size W9 w7 := (hw5.trans (hw6.mono (by omega))).trans (hw7.mono (by omega))
        refine held_call 7 (some 43) (by kernel_rfl) rfl rfl rfl 51 #[.agg (lcC b.kd b.nm (.slice ob b.kids.length cb)), .int .i64 x] (by go_simp) _ (HCB.out w7 hw79) ?_
        rintro e w8 ⟨⟨z8, rfl, hz8⟩, hw8⟩
        have hsz8 := hw8.size
        have hS8 : ∀ y, y < W9.heap.size → y ≠ w.heap.size + 1 → w8.heap[y]? = W9.heap[y]? := fun y hy hn => (hw8.block y (by omega)).trans (hS7 y hy hn)
        refine ⟨_, rfl, hS8, ?_⟩
        simp only [Act.put, List.setIfInBounds_toArray, List.set_cons_zero, List.set_cons_succ]
        obtain ⟨o8, c8, hzz8⟩ := hz8.form
        subst hzz8
        have hz7' : LcIn w8 (fun y => (P y ∧ y < w.heap.size) ∨ W9.heap.size ≤ y) (Lm.app (.var .s) (a.abs x)) (.slice o7 (Lm.app (.var .s) (a.abs x)).kids.length c7) := LcIn.mono (fun y hy _ => by rcases hy with (hy | hy) | hy; exact .inl hy; exact .inr hy; exact .inr (by omega)) (LcIn.below hw8 hz7)
        have hz8' : LcIn w8 (fun y => (P y ∧ y < w.heap.size) ∨ W9.heap.size ≤ y) (b.abs x) (.slice o8 (b.abs x).kids.length c8) := LcIn.mono (fun y hy _ => hy.imp id (fun h => by omega)) hz8
        refine held_call 8 (some 44) (by kernel_rfl) rfl rfl rfl 73 #[.agg (lcC 2 0 (.slice o7 (Lm.app (.var .s) (a.abs x)).kids.length c7)), .agg (lcC (b.abs x).kd (b.abs x).nm (.slice o8 (b.abs x).kids.length c8))] (by go_simp) _ (lcApp_any (Lm.app (.var .s) (a.abs x)) (b.abs x) _ _ _ w8 hz7' hz8') ?_
        rintro e w10 ⟨⟨z10, rfl, hz10⟩, hw10⟩
        have hsz10 := hw10.size
        have hSl : ∀ y, y < W9.heap.size → y ≠ w.heap.size + 1 → w10.heap[y]? = W9.heap[y]? := fun y hy hn => (hw10.block y (by omega)).trans (hS8 y hy hn)
        refine ⟨_, rfl, hSl, ?_⟩
        simp only [Act.put, List.setIfInBounds_toArray, List.set_cons_zero, List.set_cons_succ]
        obtain ⟨o10, c10, hzz10⟩ := hz10.form
        subst hzz10
        have hRz : RowAt w10 (w.heap.size + 1) 75 #[.int .i64 0, .int .i64 0, .slice none 0 0] := (((HRZ9.out.below hw79 (by omega)).below hw8 (by omega))).below hw10 (by omega)
        refine held_one 9 (by kernel_rfl) rfl rfl ?_
        intro K hK
        refine store_3_wp 75 (.tmp 4) (.tmp 44) rfl rfl zero_lcT.2 (w.heap.size + 1) (lcC 2 0 (.slice o10 (Lm.app (Lm.app (.var .s) (a.abs x)) (b.abs x)).kids.length c10)) rfl (lcC_one _ _ _ rfl) rfl rfl #[.int .i64 0, .int .i64 0, .slice none 0 0] rfl hRz ?_
        intro w9 hR9 hg9 hs9
        have hS9 : ∀ y, y < W9.heap.size → y ≠ w.heap.size + 1 → w9.heap[y]? = W9.heap[y]? := fun y hy hn => by rw [hg9.block y (by omega) (by intro e; injection e; omega)]; exact hSl y hy hn
        refine hK.out _ _ hS9 ?_
        refine wpAnyH_done (by kernel_rfl) ?_ _
        refine NoPanic.normal ?_
        have HF : Hid (LcIn w9 (fun y => P y ∨ w.heap.size ≤ y) (.app (.app (.var .s) (a.abs x)) (b.abs x)) (.slice o10 (Lm.app (Lm.app (.var .s) (a.abs x)) (b.abs x)).kids.length c10) ∧ Below w.heap.size w w9 ∧ RowAt w9 (w.heap.size + 1) 75 (lcC 2 0 (.slice o10 (Lm.app (Lm.app (.var .s) (a.abs x)) (b.abs x)).kids.length c10))) := by
          refine ⟨LcIn.keep (w := w10) (by omega) (fun y hy hl => hg9.block y hl (by intro e; injection e with e; rcases hy with (hy | hy) | hy <;> omega)) (fun y hy _ => by rcases hy with (hy | hy) | hy; exact .inl hy.1; exact .inr (by omega); exact .inr (by omega)) hz10, (((HBW9.out.trans (hw79.mono HBW9.out.size)).trans (hw8.mono (by have := HBW9.out.size; omega))).trans (hw10.mono (by have := HBW9.out.size; omega))).grown hg9 (by have := HBW9.out.size; omega) (by intro k hk; cases hk; omega), hR9⟩
        clear hK hS hS5 hS6 hS7 hS8 hSl hS9 hz6 hz6' hzs hz7 hz7' hz8 hz8' hz10 hw5 hw6 hw7 hw8 hw79 hw10 hg9 hR9 hRz
        go_wp2
        exact bodyPost_ret (v := .agg (lcC 2 0 (.slice o10 (Lm.app (Lm.app (.var .s) (a.abs x)) (b.abs x)).kids.length c10))) (results_cell_row Try.results51 _ _ (w.heap.size + 1) 75 (lcC 2 0 (.slice o10 (Lm.app (Lm.app (.var .s) (a.abs x)) (b.abs x)).kids.length c10)) (0, 0) _ rfl HF.out.2.2 Try.underlying75 rfl zero_lcT.2) rfl ⟨⟨_, by rw [HE.out]; rfl, by rw [HE.out]; exact HF.out.1⟩, HF.out.2.1⟩
theorem ldAbstract_all (x : Int) : ∀ N, AbSC x N := by
  intro N
  induction N using Nat.strongRecOn with
  | _ N IH => exact ldAbstract_step x N IH
end Go.Proofs.Ytnnhedncdpfiaaa.CB
