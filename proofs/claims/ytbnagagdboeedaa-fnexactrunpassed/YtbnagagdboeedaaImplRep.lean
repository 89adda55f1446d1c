/-
  What replaced of the program makes of a tree: anew, with what a function gives in the place of each variable.
-/
import Derived.Test.YtbnagagdboeedaaImplTell
namespace Go.Proofs.Ytbnagagdboeedaa
open Go.RowKit
set_option linter.unusedVariables false

def mapV (f : Int → Nat → Lm) : Lm → Nat → Lm
  | .var n, m => f n m
  | .lam t, m => .lam (mapV f t (m + 1))
  | .app s t, m => .app (mapV f s m) (mapV f t m)
theorem mapV_node (f : Int → Nat → Lm) (t : Lm) (m : Nat) (h : t.kids ≠ []) : nodeOf t.kd t.nm (t.kids.map fun s => mapV f s (m + t.lams)) = some (mapV f t m) := by
  cases t with
  | var n => exact absurd rfl h
  | lam t => simp [Lm.kids, Lm.kd, Lm.nm, Lm.lams, nodeOf, mapV]
  | app s t => simp [Lm.kids, Lm.kd, Lm.nm, Lm.lams, nodeOf, mapV]
theorem mapV_kid (f : Int → Nat → Lm) {t s : Lm} (m : Nat) (h : s ∈ t.kids) : (mapV f s (m + t.lams)).sz < (mapV f t m).sz := by
  cases t with
  | var n => simp [Lm.kids] at h
  | lam t => simp [Lm.kids] at h; subst h; simp [Lm.lams, mapV, Lm.sz]
  | app p q => simp [Lm.kids] at h; rcases h with rfl | rfl <;> simp [Lm.lams, mapV, Lm.sz] <;> omega
/-- Variables that are far from int's ends. -/
def Lm.bd : Lm → Prop
  | .var n => -1000000 ≤ n ∧ n ≤ 1000000
  | .lam t => t.bd
  | .app s t => s.bd ∧ t.bd
theorem Lm.bd_kid {t s : Lm} (h : t.bd) (hs : s ∈ t.kids) : s.bd := by
  cases t with
  | var n => simp [Lm.kids] at hs
  | lam t => simp [Lm.kids] at hs; subst hs; exact h
  | app p q => simp [Lm.kids] at hs; rcases hs with rfl | rfl; exact h.1; exact h.2
theorem Lm.ok_bd : ∀ {t : Lm}, t.ok = true → t.bd
  | .var n, h => by simp [Lm.ok] at h; exact ⟨by omega, by omega⟩
  | .lam t, h => Lm.ok_bd (t := t) h
  | .app s t, h => by simp only [Lm.ok, Bool.and_eq_true] at h; exact ⟨Lm.ok_bd h.1, Lm.ok_bd h.2⟩
/-- What is asked of the function. -/
def LeafOk (w0 : World) (P0 : Nat → Prop) (lf : Nat) (lb : Array Value) (f : Int → Nat → Lm) : Prop := ∀ (n : Int) (b m : Nat) (w : World), Below w0.heap.size w0 w → TrIn w P0 (.var n) b → (f n m).sz ≤ 1000000 → m ≤ 1000000 → -1000000 ≤ n → n ≤ 1000000 →
    Calls Try.prog lf (#[.pointer (some ⟨b, 0, none⟩), .int .i64 (m : Int)] ++ lb) w fun e w' => (∃ b', e = .returned (.pointer (some ⟨b', 0, none⟩)) ∧ TrIn w' (fun x => P0 x ∨ w.heap.size ≤ x) (f n m) b') ∧ Below w.heap.size w w'
def RepC (w0 : World) (P0 : Nat → Prop) (lf : Nat) (lb : Array Value) (f : Int → Nat → Lm) (N : Nat) : Prop := ∀ (t : Lm), t.sz ≤ N → ∀ (b m : Nat) (w : World), Below w0.heap.size w0 w → TrIn w P0 t b → (mapV f t m).sz ≤ 1000000 → m + t.sz ≤ 1000000 → t.bd →
    Calls Try.prog 97 #[.pointer (some ⟨b, 0, none⟩), .int .i64 (m : Int), .func (.func lf) #[] lb] w fun e w' => (∃ b', e = .returned (.pointer (some ⟨b', 0, none⟩)) ∧ TrIn w' (fun x => P0 x ∨ w.heap.size ≤ x) (mapV f t m) b') ∧ Below w.heap.size w w'

set_option maxHeartbeats 8000000 in
set_option maxRecDepth 100000 in
theorem replaced_step (w0 : World) (P0 : Nat → Prop) (hP0 : ∀ x, P0 x → x < w0.heap.size) (lf : Nat) (lb : Array Value) (f : Int → Nat → Lm) (eg : ∀ args w, (callFunc lf args).run Try.prog w = .ok (.enter lf args) w) (hleaf : LeafOk w0 P0 lf lb f) (N : Nat) (IH : ∀ n, n < N → RepC w0 P0 lf lb f n) : RepC w0 P0 lf lb f N := by
  intro t ht b m w hB0 hT hsz hm hbd
  have HIH := hideT' IH
  have HT := hideT' hT
  have HTN := hideT' ht
  have HB0 := hideT' hB0
  have HBD := hideT' hbd
  obtain ⟨o, c, hpc, _⟩ := hT.parts
  obtain ⟨u, k0, k1, k2⟩ := hT.own3
  have hbl := hT.lt
  have hws := hB0.size
  clear IH ht
  cases hkk : t.kids with
  | nil =>
    cases t with
    | lam s => simp [Lm.kids] at hkk
    | app p q => simp [Lm.kids] at hkk
    | var n =>
      have HL := hideT' (hleaf n b m w hB0 hT hsz (by simp only [Lm.sz] at hm; omega) hbd.1 hbd.2)
      simp only [Lm.kids, List.length_nil] at hpc
      clear hT hB0 k0 k1 k2 hkk hbd
      go_enter Try.func97, Try.ntmps97
      go_wp2_with fail
      refine HL.out.mono ?_
      rintro e w2 ⟨⟨b', rfl, hT2⟩, hB2⟩
      have HF := hideT' (And.intro hT2 hB2)
      clear hT2 hB2
      go_wp2
      go_ret
      exact ⟨⟨b', rfl, HF.out.1⟩, HF.out.2⟩
  | cons T0 Ts0 =>
    have hne : t.kids ≠ [] := by rw [hkk]; simp
    obtain ⟨q, hq⟩ : ∃ q, q = t.kids.length := ⟨_, rfl⟩
    have hq2 : q ≤ 2 := by rw [hq]; cases t <;> simp [Lm.kids]
    have hq1 : 1 ≤ q := by rw [hq, hkk]; simp
    rw [← hq] at hpc
    have hqz : ¬ (q : Int) = 0 := by omega
    have hqb : ((q : Int) == 0) = false := by simp only [beq_eq_false_iff_ne]; exact hqz
    have HQ := hideT' hq
    have HNE := hideT' hne
    have hmk := make_ptree q (by omega)
    clear hT hB0 hkk hq hne hbd
    have HNEW : Hid (RecAt (w.alloc (.cells ((List.replicate q (none : Option Nat)).flatMap ptrL).toArray 60)) w.heap.size 60 ptrL (List.replicate q none)) := RowAt.new _ _ _
    have HBN : Hid (Below w.heap.size w (w.alloc (.cells ((List.replicate q (none : Option Nat)).flatMap ptrL).toArray 60))) := (Below.refl _ _).alloc (Nat.le_refl _) _
    go_enter Try.func97, Try.ntmps97
    go_wp2_with fail
    clear hmk
    obtain ⟨G, hG⟩ : ∃ G, G = w.heap.size := ⟨_, rfl⟩
    have HG := hideT' hG
    rw [← hG]
    clear hG
    go_loopg [31] q (fun gg i wr => ∃ (As Bs : List Lm) (ks : List (Nat × Lm)), gg = Bs.length ∧ Hid (t.kids = As ++ Bs) ∧ i = .int .i64 (As.length : Int) ∧ Hid (ks.map Prod.snd = As.map (fun s => mapV f s (m + t.lams)) ∧ RecAt wr G 60 ptrL (ks.map (fun p => some p.1) ++ List.replicate (q - As.length) none) ∧ (∀ p ∈ ks, TrIn wr (fun x => P0 x ∨ G < x) p.2 p.1) ∧ Below w.heap.size w wr))
    case atStart => exact ⟨[], t.kids, [], by rw [HQ.out], rfl, rfl, ⟨rfl, by rw [HG.out]; simpa using HNEW.out, by simp, HBN.out⟩⟩
    case round =>
      obtain ⟨As, Bs, ks, hgg, HA, rfl, HS⟩ := hrel
      obtain ⟨j, hj⟩ : ∃ j, j = As.length := ⟨_, rfl⟩
      rw [← hj] at HS ⊢
      have HJ := hideT' hj
      clear hj
      obtain ⟨hks, hR, hTk, hB⟩ := HS.out
      have hkl : ks.length = j := by rw [HJ.out, ← List.length_map (f := Prod.snd), hks, List.length_map]
      have hTr : TrIn wr P0 t b := TrIn.keep (w := w) hB.size (fun x hx hl => hB.block x hl) (fun _ h _ => h) HT.out
      have hBr : Below w0.heap.size w0 wr := HB0.out.trans (hB.mono hws)
      have hGw : G < wr.heap.size := hR.lt
      cases Bs with
      | nil =>
        have hjm : j = q := by rw [HJ.out, HQ.out, HA.out]; simp
        have hnl : ¬ (j : Int) < (q : Int) := by omega
        have HKids : Hid (KidsAt wr (fun x => P0 x ∨ G ≤ x) (.slice (some ⟨G, 0, none⟩) q q) ks) := by
          refine ⟨_, q, by rw [hkl, hjm], fun hn => ⟨G, rfl, ⟨hR.lt, .inr (Nat.le_refl _)⟩, fun i p hi => ?_⟩, fun p hp => TrIn.mono (fun x hx _ => hx.imp id Nat.le_of_lt) (hTk p hp)⟩
          have hil : i < ks.length := (List.getElem?_eq_some_iff.1 hi).1
          have := hR.cell (c := 1) ptrL_len i 0 (by rw [List.length_append, List.length_map]; omega) (by decide)
          rw [Nat.mul_one, Nat.add_zero] at this
          rw [this]
          have e : (ks.map (fun p : Nat × Lm => some p.1) ++ List.replicate (q - j) none).getD i default = some p.1 := by
            rw [List.getD, List.getElem?_append_left (by rw [List.length_map]; exact hil), List.getElem?_map, hi]
            rfl
          rw [e]; rfl
        have HTN2 : Hid (nodeOf t.kd t.nm (ks.map Prod.snd) = some (mapV f t m)) := by
          unfold Hid
          rw [hks]
          have := mapV_node f t m HNE.out
          rw [HA.out, List.append_nil] at this
          exact this
        have HPS : Hid (∀ p ∈ ptsOf ks, p.2.1 ≤ 1000000 ∧ p.2.2 ≤ 1000000) := by
          intro p hp
          obtain ⟨y, hy, rfl⟩ := List.mem_map.1 hp
          have h1 : y.2 ∈ ks.map Prod.snd := List.mem_map_of_mem hy
          rw [hks] at h1
          obtain ⟨s, hs, he⟩ := List.mem_map.1 h1
          have h2 := mapV_kid f m (t := t) (s := s) (by rw [HA.out]; simpa using hs)
          have h3 := y.2.dp_sz
          rw [he] at h2
          simp only; omega
        have e0 : wr.cell? ⟨b, 0, none⟩ = some (.int .i64 t.kd) := by rw [hB.cell (p := ⟨b, 0, none⟩) hbl]; exact k0
        have e1 : wr.cell? ⟨b, 1, none⟩ = some (.int .i64 t.nm) := by rw [hB.cell (p := ⟨b, 1, none⟩) hbl]; exact k1
        have e2 : wr.cell? ⟨b, 2, none⟩ = some (.int .i64 u) := by rw [hB.cell (p := ⟨b, 2, none⟩) hbl]; exact k2
        have HBB := hideT' hB
        have HKL := hideT' hkl
        have hbr : b < wr.heap.size := by have := hB.size; omega
        clear hks hR hTk hB hTr hBr hkl HS k0 k1 k2 hpc hgg
        go_wp2_with fail
        refine (treeOf_any t.kd t.nm u _ (ptsOf ks) wr HKids.out.pts (by unfold ptsOf; rw [List.length_map, HKL.out]; omega) HPS.out).mono ?_
        intro e w2 hN
        obtain ⟨b', rfl, hbb, hTr, hB2⟩ := treeNew_at HKids.out HTN2.out hN
        have HF : Hid (TrIn w2 (fun x => P0 x ∨ w.heap.size ≤ x) (mapV f t m) b' ∧ Below w.heap.size w w2) := ⟨TrIn.mono (fun x hx _ => by have := HG.out; have := HBB.out.size; rcases hx with (hx | hx) | hx; exact .inl hx; exact .inr (by omega); exact .inr (by omega)) hTr, HBB.out.trans (hB2.mono HBB.out.size)⟩
        clear hN hTr hB2
        go_wp2
        go_ret
        exact ⟨⟨b', rfl, HF.out.1⟩, HF.out.2⟩
      | cons T Bs =>
        have hil : (j : Int) < (q : Int) := by rw [HQ.out, HA.out, List.length_append, ← HJ.out]; simp; omega
        have hkj : t.kids[j]? = some T := by rw [HA.out, HJ.out]; simp
        have hTm : T ∈ t.kids := List.mem_of_getElem? hkj
        obtain ⟨o', c', hpc', hkid⟩ := hTr.parts
        have hoo : o' = o := by
          have h1 : wr.cell? ⟨b, 3, none⟩ = w.cell? ⟨b, 3, none⟩ := hB.cell (p := ⟨b, 3, none⟩) hbl
          rw [hpc', hpc] at h1
          injection h1 with h1
          injection h1 with h1
        subst hoo
        obtain ⟨g, b1, ho', hg, _, hcb1, hT1⟩ := hkid j T hkj
        subst ho'
        have hTs := Lm.kids_lt hTm
        have hms := mapV_kid f m hTm
        have hla : t.lams ≤ 1 := by cases t <;> simp [Lm.lams]
        have HCALL := hideT' (HIH.out T.sz (by have := HTN.out; omega) T (Nat.le_refl _) b1 (m + t.lams) wr hBr hT1 (by omega) (by omega) (Lm.bd_kid HBD.out hTm))
        have HLM := hideT' (lambdasOf_any t b _ wr hTr)
        have hcast : ((m + t.lams : Nat) : Int) = (m : Int) + (t.lams : Int) := by omega
        rw [hcast] at HCALL
        have HSS := hideT' (And.intro hks (And.intro hTk (And.intro hB hkl)))
        have HR := hideT' hR
        clear hcast hks hTk hB hTr hBr hpc' hkid hT1 hkj hTm hR HS hkl
        go_wp2_with fail
        refine HLM.out.mono ?_
        rintro e w4 ⟨rfl, hw4⟩
        subst hw4
        go_wp2_with fail
        refine HCALL.out.mono ?_
        rintro e w5 ⟨⟨b', rfl, hT5⟩, hB5⟩
        obtain ⟨hks, hTk, hB, hkl⟩ := HSS.out
        have hR5 : RecAt w5 G 60 ptrL (ks.map (fun p => some p.1) ++ List.replicate (q - j) none) := HR.out.below hB5 hGw
        have HT5 := hideT' hT5
        have HB5 := hideT' hB5
        have HSL : Hid (j < (ks.map (fun p : Nat × Lm => some p.1) ++ List.replicate (q - j) none).length) := by unfold Hid; rw [List.length_append, List.length_map, List.length_replicate, hkl]; omega
        clear hT5 hB5 hks hTk hB hkl
        go_wp2_with (refine store_rec1 rfl 60 _ _ rfl rfl (fun b : Option Nat => .pointer (b.map fun b => ⟨b, 0, none⟩)) (fun _ => rfl) one_ptree G j (some b') rfl rfl _ hR5 HSL.out ?_; intro w6 hR6 hg6 hs6; have HG6 := hideT' hg6; have HR6 := hideT' hR6; clear hg6 hR6)
        obtain ⟨hks, hTk, hB, hkl⟩ := HSS.out
        have HEND : Hid ((ks ++ [(b', mapV f T (m + t.lams))]).map Prod.snd = (As ++ [T]).map (fun s => mapV f s (m + t.lams)) ∧ RecAt w6 G 60 ptrL ((ks ++ [(b', mapV f T (m + t.lams))]).map (fun p => some p.1) ++ List.replicate (q - (As ++ [T]).length) none) ∧ (∀ p ∈ ks ++ [(b', mapV f T (m + t.lams))], TrIn w6 (fun x => P0 x ∨ G < x) p.2 p.1) ∧ Below w.heap.size w w6) := by
          have hGw0 : ¬ (P0 G ∨ G < G) := fun h => by rcases h with h | h; have := hP0 _ h; have := HG.out; omega; omega
          refine ⟨by rw [List.map_append, List.map_append, hks]; rfl, ?_, fun p hp => ?_, ?_⟩
          · have e1 : (ks.map (fun p : Nat × Lm => some p.1) ++ List.replicate (q - j) none).set j (some b') = (ks ++ [(b', mapV f T (m + t.lams))]).map (fun p : Nat × Lm => some p.1) ++ List.replicate (q - (As ++ [T]).length) none := by
              rw [List.set_append_right _ _ (by rw [List.length_map, hkl]; exact Nat.le_refl _), List.length_map, hkl, Nat.sub_self, List.length_append, ← HJ.out, List.length_singleton]
              obtain ⟨y, hy⟩ : ∃ y, q - j = y + 1 := ⟨q - j - 1, by omega⟩
              rw [hy, show q - (j + 1) = y by omega, List.replicate_succ, List.set_cons_zero, List.map_append]
              simp
            have h3 := HR6.out
            rw [e1] at h3
            exact h3
          · rcases List.mem_append.1 hp with hp | hp
            · exact TrIn.grown HG6.out hGw0 (TrIn.below HB5.out (hTk p hp))
            · rw [List.mem_singleton] at hp
              subst hp
              exact TrIn.grown HG6.out hGw0 (TrIn.mono (fun x hx _ => hx.imp id (fun h => Nat.lt_of_lt_of_le hGw h)) HT5.out)
          · exact (hB.trans (HB5.out.mono hB.size)).grown HG6.out (by have := hB.size; have := HB5.out.size; omega) (by intro k hk; cases hk; rw [HG.out]; exact Nat.le_refl _)
        have HA2 : Hid (t.kids = (As ++ [T]) ++ Bs) := by unfold Hid; rw [HA.out]; simp
        clear hks hTk hB hkl
        go_roundg Bs.length
        case measure => first | omega | (rw [hgg]; simp)
        case rel => exact ⟨As ++ [T], Bs, ks ++ [(b', mapV f T (m + t.lams))], rfl, HA2, by rw [List.length_append, ← HJ.out]; go_num, HEND⟩
theorem replaced_any (w0 : World) (P0 : Nat → Prop) (hP0 : ∀ x, P0 x → x < w0.heap.size) (lf : Nat) (lb : Array Value) (f : Int → Nat → Lm) (eg : ∀ args w, (callFunc lf args).run Try.prog w = .ok (.enter lf args) w) (hleaf : LeafOk w0 P0 lf lb f) : ∀ N, RepC w0 P0 lf lb f N := by
  intro N
  induction N using Nat.strongRecOn with
  | _ N IH => exact replaced_step w0 P0 hP0 lf lb f eg hleaf N IH
end Go.Proofs.Ytbnagagdboeedaa
