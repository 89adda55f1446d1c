/-
  How the program reads a row of nodes as a tree: treeAt, readTree, GoodTerm.
-/
import Derived.Test.YtgolfbjfopoeeaaDoorTreeMem
namespace Go.Proofs.YtgolfbjfopoeeaaDoor
open Go.RowKit
set_option linter.unusedVariables false

/-- The answer of treeAt. -/
def TreeAns' (w : World) (r : Option Lm) (e : Ending) (w' : World) : Prop :=
  match r with
  | none => ∃ p, e = .returned (.tuple #[.pointer p, .bool false])
  | some t => ∃ b, e = .returned (.tuple #[.pointer (some ⟨b, 0, none⟩), .bool true]) ∧ TrIn w' (fun x => w.heap.size ≤ x) t b
/-- What the loop over the parts knows. -/
def KidsP (l : List Nd) (d a : Nat) : List Lm → Nat → Prop
  | [], nx => nx = a + 1
  | [s], nx => treeP l d (a + 1) a = some s ∧ nx = a + 1 + s.sz
  | [s, t], nx => treeP l d (a + 1) a = some s ∧ treeP l d (a + 1 + s.sz) a = some t ∧ nx = a + 1 + s.sz + t.sz
  | _, _ => False
theorem KidsP.step {l : List Nd} {d a nx : Nat} {ts : List Lm} {t : Lm} (h : KidsP l d a ts nx) (hl : ts.length < 2) (ht : treeP l d nx a = some t) : KidsP l d a (ts ++ [t]) (nx + t.sz) := by
  match ts, h, hl with
  | [], h, _ => cases h; exact ⟨ht, rfl⟩
  | [s], h, _ => obtain ⟨h1, rfl⟩ := h; exact ⟨h1, ht, rfl⟩
  | _ :: _ :: _, _, hl => simp at hl; omega
theorem KidsP.bad {l : List Nd} {d a nx : Nat} {ts : List Lm} {up : Int} (h : KidsP l d a ts nx) (hl : (ts.length : Int) < arN (ndAt l a)) (ht : treeP l d nx a = none) : treeP l (d + 1) a up = none := by
  rw [treeP]
  unfold arN at hl
  split
  · rfl
  · split
    · rfl
    · split
      · next hk => rw [if_pos hk] at hl; omega
      · next h1 =>
        rw [if_neg h1] at hl
        split
        · next hk =>
          rw [if_pos hk] at hl
          match ts, h, hl with
          | [], h, _ => cases h; rw [ht]; rfl
          | _ :: _, _, hl => simp at hl; omega
        · next h2 =>
          rw [if_neg h2] at hl
          split
          · next hk =>
            rw [if_pos hk] at hl
            match ts, h, hl with
            | [], h, _ => cases h; rw [ht]
            | [s], h, _ => obtain ⟨e1, rfl⟩ := h; rw [e1]; simp only; rw [ht]; rfl
            | _ :: _ :: _, _, hl => simp at hl; omega
          · rfl
theorem KidsP.done {l : List Nd} {d a nx : Nat} {ts : List Lm} {up : Int} (h : KidsP l d a ts nx) (hal : a < l.length) (hup : (ndAt l a).u = up) (hl : (ts.length : Int) = arN (ndAt l a)) :
    ∃ t, treeP l (d + 1) a up = some t ∧ nodeOf (ndAt l a).k (ndAt l a).n ts = some t ∧ nx = a + t.sz := by
  rw [treeP, if_neg (by omega), if_neg (by simp [hup])]
  unfold arN at hl
  split
  · next hk =>
    rw [if_pos hk] at hl
    match ts, h, hl with
    | [], h, _ => cases h; exact ⟨_, rfl, by simp [nodeOf, hk.1], rfl⟩
    | _ :: _, _, hl => simp at hl; omega
  · next h1 =>
    rw [if_neg h1] at hl
    split
    · next hk =>
      rw [if_pos hk] at hl
      match ts, h, hl with
      | [], h, hl => simp at hl
      | [s], h, _ => obtain ⟨e1, rfl⟩ := h; rw [e1]; exact ⟨_, rfl, by simp [nodeOf, hk], by simp only [Lm.sz]; omega⟩
      | _ :: _ :: _, _, hl => simp at hl; omega
    · next h2 =>
      rw [if_neg h2] at hl
      split
      · next hk =>
        rw [if_pos hk] at hl
        match ts, h, hl with
        | [], h, hl => simp at hl
        | [s], h, hl => simp at hl
        | [s, t], h, _ => obtain ⟨e1, e2, rfl⟩ := h; rw [e1]; simp only; rw [e2]; exact ⟨_, rfl, by simp [nodeOf, hk], by simp only [Lm.sz]; omega⟩
        | _ :: _ :: _ :: _, _, hl => simp at hl; omega
      · next h3 => rw [if_neg h3] at hl; omega
theorem treeP_sz {l : List Nd} {d a : Nat} {up : Int} {t : Lm} (h : treeP l d a up = some t) : a + t.sz ≤ l.length ∧ t.dp ≤ d := by
  obtain ⟨pre, post, h1, h2, h3, h4⟩ := treeP_flat l d a up t h
  refine ⟨?_, h4⟩
  rw [h1, List.length_append, List.length_append, Lm.flat_sz, h2]
  omega
theorem KidsP.le {l : List Nd} {d a nx : Nat} {ts : List Lm} (h : KidsP l d a ts nx) (ha : a < l.length) (hl : l.length ≤ 150) : nx ≤ 150 := by
  match ts, h with
  | [], h => cases h; omega
  | [s], h => obtain ⟨h1, rfl⟩ := h; have := (treeP_sz h1).1; omega
  | [s, t], h => obtain ⟨h1, h2, rfl⟩ := h; have := (treeP_sz h2).1; omega
theorem KidsP.small {l : List Nd} {d a nx : Nat} {ks : List (Nat × Lm)} (h : KidsP l d a (ks.map Prod.snd) nx) (hl : l.length ≤ 150) (hd : d ≤ 40) : ∀ p ∈ ptsOf ks, p.2.1 ≤ 1000000 ∧ p.2.2 ≤ 1000000 := by
  intro p hp
  obtain ⟨q, hq, rfl⟩ := List.mem_map.1 hp
  have key : ∀ t ∈ ks.map Prod.snd, t.sz ≤ 150 ∧ t.dp ≤ 40 := by
    generalize ks.map Prod.snd = ts at h
    match ts, h with
    | [], h => simp
    | [s], h => obtain ⟨h1, _⟩ := h; have := treeP_sz h1; simp; omega
    | [s, t], h => obtain ⟨h1, h2, _⟩ := h; have := treeP_sz h1; have := treeP_sz h2; simp; omega
  have := key q.2 (List.mem_map_of_mem hq)
  simp only; omega
theorem arN_le (d : Nd) : arN d ≤ 2 := by unfold arN; split <;> (try split) <;> (try split) <;> omega
theorem treeP_neg {l : List Nd} {d a : Nat} {up : Int} (h : l.length ≤ a ∨ d = 0 ∨ (ndAt l a).u ≠ up ∨ arN (ndAt l a) < 0) : treeP l d a up = none := by
  cases d with
  | zero => rfl
  | succ d =>
    rw [treeP]
    split
    · rfl
    · split
      · rfl
      · next h1 h2 =>
        have h3 : arN (ndAt l a) < 0 := by
          rcases h with h | h | h | h
          · exact absurd h h1
          · cases h
          · exact absurd h h2
          · exact h
        unfold arN at h3
        split
        · next hk => rw [if_pos hk] at h3; omega
        · next hk =>
          rw [if_neg hk] at h3
          split
          · next hk => rw [if_pos hk] at h3; omega
          · next hk =>
            rw [if_neg hk] at h3
            split
            · next hk => rw [if_pos hk] at h3; omega
            · rfl

set_option maxHeartbeats 8000000 in
set_option maxRecDepth 100000 in
theorem treeAt_any (l : List Nd) (hl : l.length ≤ 150) : ∀ (d a : Nat) (up : Int) (v : Value) (w : World), d ≤ 40 → a ≤ 200 → NdIn w v l →
    Calls Tryd.prog 50 #[v, .int .i64 (a : Int), .int .i64 up, .int .i64 (d : Int)] w fun e w' => TreeAns' w (treeP l d a up) e w' ∧ Below w.heap.size w w' := by
  intro d
  induction d with
  | zero =>
    intro a up v w hd ha hv
    obtain ⟨o, cap, rfl⟩ := hv.len
    clear hv
    rw [treeP_neg (.inr (.inl rfl))]
    by_cases h : (a : Int) < (l.length : Int)
    · go_enter Tryd.func50, Tryd.ntmps50
      go_wp2
      go_ret2
      exact ⟨⟨_, rfl⟩, Below.refl _ _⟩
    · go_enter Tryd.func50, Tryd.ntmps50
      go_wp2
      go_ret2
      exact ⟨⟨_, rfl⟩, Below.refl _ _⟩
  | succ d IH =>
    intro a up v w hd ha hv
    have HV := hideT' hv
    have HIH := hideT' IH
    clear IH
    obtain ⟨o, cap, rfl⟩ := hv.len
    by_cases h : (a : Int) < (l.length : Int)
    · obtain ⟨nd, hnd⟩ : ∃ nd, nd = ndAt l a := ⟨_, rfl⟩
      obtain ⟨g, rfl, hg, c0, c1, c2⟩ := hv.cells (by omega) hnd
      have HN := hideT' hnd
      clear hnd hv
      obtain ⟨k, n, u⟩ := nd
      simp only at c0 c1 c2
      by_cases hu : u = up
      · subst hu
        obtain ⟨r, hr⟩ : ∃ r, r = arN ⟨k, n, u⟩ := ⟨_, rfl⟩
        have HAR : Hid (∀ w, Calls Tryd.prog 144 #[.agg #[.int .i64 k, .int .i64 n, .int .i64 u]] w fun e w' => e = .returned (.int .i64 r) ∧ w' = w.alloc (.cells #[.int .i64 k, .int .i64 n, .int .i64 u] 51)) := by
          unfold Hid; rw [hr]; exact arity_any k n u
        by_cases hneg : r < 0
        · rw [treeP_neg (.inr (.inr (.inr (by rw [← HN.out, ← hr]; exact hneg))))]
          clear hr
          go_enter Tryd.func50, Tryd.ntmps50
          go_wp2_with fail
          refine (above_any k n u _).mono ?_
          rintro e w1 ⟨rfl, rfl⟩
          go_wp2_with fail
          refine (HAR.out _).mono ?_
          rintro e w2 ⟨rfl, rfl⟩
          go_wp2
          go_ret2
          exact ⟨⟨_, rfl⟩, ((Below.refl _ _).alloc (Nat.le_refl _) _).alloc (by simp) _⟩
        · obtain ⟨m, rfl⟩ : ∃ m : Nat, r = (m : Int) := ⟨r.toNat, by omega⟩
          have hm2 : m ≤ 2 := by have := arN_le ⟨k, n, u⟩; rw [← hr] at this; omega
          have HRR := hideT' hr
          clear hr
          have hmk := make_ptree m (by omega)
          obtain ⟨A1, hA1⟩ : ∃ A1, A1 = ((w.alloc (.cells #[.int .i64 k, .int .i64 n, .int .i64 u] 51)).alloc (.cells #[.int .i64 k, .int .i64 n, .int .i64 u] 51)).alloc (.cells #[.int .i64 k, .int .i64 n, .int .i64 u] 51) := ⟨_, rfl⟩
          have hB1 : Below w.heap.size w A1 := by rw [hA1]; exact (((Below.refl _ _).alloc (Nat.le_refl _) _).alloc (by simp) _).alloc (by simp; omega) _
          have hS1 : A1.heap.size = w.heap.size + 3 := by rw [hA1]; simp
          have HB1 := hideT' hB1
          have HS1 := hideT' hS1
          clear hB1 hS1
          go_enter Tryd.func50, Tryd.ntmps50
          go_wp2_with fail
          refine (above_any k n u _).mono ?_
          rintro e w1 ⟨rfl, rfl⟩
          go_wp2_with fail
          refine (HAR.out _).mono ?_
          rintro e w2 ⟨rfl, rfl⟩
          go_wp2_with fail
          · exfalso
            rename_i hx
            rcases hx with hx | hx
            · rw [beq_iff_eq] at hx; omega
            · omega
          refine (HAR.out _).mono ?_
          rintro e w3 ⟨rfl, rfl⟩
          rw [← hA1]
          have HNEW : Hid (RecAt (A1.alloc (.cells ((List.replicate m (none : Option Nat)).flatMap ptrL).toArray 54)) A1.heap.size 54 ptrL (List.replicate m none)) := RowAt.new _ _ _
          have HBN : Hid (Below w.heap.size w (A1.alloc (.cells ((List.replicate m (none : Option Nat)).flatMap ptrL).toArray 54))) := HB1.out.alloc (by have := HS1.out; omega) _
          clear hA1
          go_wp2_with fail
          clear hmk
          obtain ⟨G, hG⟩ : ∃ G, G = A1.heap.size := ⟨_, rfl⟩
          rw [← hG]
          have HG := hideT' hG
          clear hG
          go_loopg [11, 53] m (fun q x i wr => ∃ (ks : List (Nat × Lm)) (nx : Nat), q = m - ks.length ∧ ks.length ≤ m ∧ x = .int .i64 (nx : Int) ∧ i = .int .i64 (ks.length : Int) ∧ KidsP l d a (ks.map Prod.snd) nx ∧ RecAt wr G 54 ptrL (ks.map (fun p => some p.1) ++ List.replicate (m - ks.length) none) ∧ (∀ p ∈ ks, TrIn wr (fun x => G < x) p.2 p.1) ∧ Below w.heap.size w wr)
          case atStart => exact ⟨[], a + 1, rfl, Nat.zero_le _, by go_num, rfl, rfl, by rw [HG.out]; simpa using HNEW.out, (by simp), HBN.out⟩
          case round =>
            obtain ⟨ks, nx, hq, hks, rfl, rfl, hkp, hR, hT, hB⟩ := hrel
            obtain ⟨j, hj⟩ : ∃ j, j = ks.length := ⟨_, rfl⟩
            rw [← hj] at hq hks hR ⊢
            have HJ := hideT' hj
            have hsz := hB.size
            have HKP := hideT' hkp
            have HT := hideT' hT
            have HB := hideT' hB
            have HGS : Hid (w.heap.size ≤ G) := by unfold Hid; have := HG.out; have := HS1.out; omega
            clear hkp hT hj hB
            by_cases hlt : (j : Int) < (m : Int)
            · have hnx : nx ≤ 150 := HKP.out.le (by omega) hl
              have HGW : Hid (G < wr.heap.size) := hR.lt
              have HR := hideT' hR
              clear hR
              go_wp2_with fail
              refine (HIH.out nx (a : Int) _ _ (by omega) (by omega) (HV.out.below HB.out)).mono ?_
              rintro e w2 ⟨hans, hB2⟩
              cases hres : treeP l d nx a with
              | none =>
                rw [hres] at hans
                obtain ⟨p, rfl⟩ := hans
                have HE : Hid (treeP l (d + 1) a u = none) := KidsP.bad HKP.out (by rw [List.length_map, ← HJ.out, ← HN.out, ← HRR.out]; exact hlt) hres
                have HB2 : Hid (Below w.heap.size w w2) := HB.out.trans (hB2.mono HB.out.size)
                clear hres hB2
                go_wp2
                go_ret2
                exact ⟨by rw [HE.out]; exact ⟨_, rfl⟩, HB2.out⟩
              | some t =>
                rw [hres] at hans
                obtain ⟨b, rfl, hb⟩ := hans
                have HK2 : Hid (KidsP l d a ((ks ++ [(b, t)]).map Prod.snd) (nx + t.sz)) := by
                  unfold Hid; rw [List.map_append]; exact HKP.out.step (by rw [List.length_map, ← HJ.out]; omega) hres
                have hts := (treeP_sz hres).1
                have HB2 : Hid (Below wr.heap.size wr w2) := hB2
                have hR2 : RecAt w2 G 54 ptrL (ks.map (fun p => some p.1) ++ List.replicate (m - j) none) := HR.out.below hB2 HGW.out
                have HTB : Hid (TrIn w2 (fun x => wr.heap.size ≤ x) t b) := hb
                clear hres hB2 hb
                go_wp2_with (refine store_rec1 rfl 54 _ _ rfl rfl (fun b : Option Nat => .pointer (b.map fun b => ⟨b, 0, none⟩)) (fun _ => rfl) one_ptree G j (some b) rfl rfl _ hR2 (by rw [List.length_append, List.length_map, List.length_replicate, ← HJ.out]; omega) ?_; intro w3 hR3 hg3 hs3; have hc4 : w3.cell? ⟨b, 4, none⟩ = some (.int .i64 (t.sz : Int)) := (TrIn.grown hg3 (by have := HGW.out; omega) HTB.out).size; have HG3 := hideT' hg3; have HR3 := hideT' hR3; clear hg3 hR3)
                go_roundg (m - (j + 1))
                case measure => omega
                case rel =>
                  refine ⟨ks ++ [(b, t)], nx + t.sz, by rw [List.length_append, ← HJ.out]; rfl, by rw [List.length_append, ← HJ.out, List.length_singleton]; omega, by go_num, by rw [List.length_append, ← HJ.out, List.length_singleton]; go_num, HK2.out, ?_, ?_, ?_⟩
                  · have e1 : (ks.map (fun p : Nat × Lm => some p.1) ++ List.replicate (m - j) none).set j (some b) = (ks ++ [(b, t)]).map (fun p : Nat × Lm => some p.1) ++ List.replicate (m - (ks ++ [(b, t)]).length) none := by
                      rw [List.set_append_right _ _ (by rw [List.length_map, ← HJ.out]; exact Nat.le_refl _), List.length_map, ← HJ.out, Nat.sub_self, List.length_append, ← HJ.out, List.length_singleton]
                      obtain ⟨z, hz⟩ : ∃ z, m - j = z + 1 := ⟨m - j - 1, by omega⟩
                      rw [hz, show m - (j + 1) = z by omega, List.replicate_succ, List.set_cons_zero, List.map_append]
                      simp
                    have h3 := HR3.out
                    rw [e1] at h3
                    exact h3
                  · intro p hp
                    rcases List.mem_append.1 hp with hp | hp
                    · exact TrIn.grown HG3.out (by omega) (TrIn.below HB2.out (HT.out p hp))
                    · rw [List.mem_singleton] at hp
                      subst hp
                      exact TrIn.grown HG3.out (by omega) (TrIn.mono (fun x hx _ => Nat.lt_of_lt_of_le HGW.out hx) HTB.out)
                  · exact (HB.out.trans (HB2.out.mono HB.out.size)).grown HG3.out (by have := HB.out.size; have := HB2.out.size; omega) (by intro k hk; cases hk; exact HGS.out)
            · have hjm : j = m := by omega
              obtain ⟨t, ht1, ht2, ht3⟩ := KidsP.done (up := u) HKP.out (by omega) (by rw [← HN.out]) (by rw [List.length_map, ← HJ.out, ← HN.out, ← HRR.out, hjm])
              have HKids : Hid (KidsAt wr (fun x => G ≤ x) (.slice (some ⟨G, 0, none⟩) m m) ks) := by
                refine ⟨_, m, by rw [← HJ.out, hjm], fun hn => ⟨G, rfl, ⟨hR.lt, Nat.le_refl _⟩, fun i p hi => ?_⟩, fun p hp => TrIn.mono (fun x hx _ => Nat.le_of_lt hx) (HT.out p hp)⟩
                have hil : i < ks.length := (List.getElem?_eq_some_iff.1 hi).1
                have := hR.cell (c := 1) ptrL_len i 0 (by rw [List.length_append, List.length_map]; omega) (by decide)
                rw [Nat.mul_one, Nat.add_zero] at this
                rw [this]
                have e : (ks.map (fun p : Nat × Lm => some p.1) ++ List.replicate (m - j) none).getD i default = some p.1 := by
                  rw [List.getD, List.getElem?_append_left (by rw [List.length_map]; exact hil), List.getElem?_map, hi]
                  rfl
                rw [e]; rfl
              have HTN : Hid (nodeOf k n (ks.map Prod.snd) = some t) := by
                unfold Hid; rw [← ht2, ← HN.out]
              have HTP := hideT' ht1
              have htl := treeP_sz ht1
              have HPS : Hid (∀ p ∈ ptsOf ks, p.2.1 ≤ 1000000 ∧ p.2.2 ≤ 1000000) := KidsP.small HKP.out hl (by omega)
              have hcc := HB.out
              have e0 : wr.cell? ⟨g, a * 3, none⟩ = some (.int .i64 k) := by rw [hcc.cell (p := ⟨g, a * 3, none⟩) hg]; exact c0
              have e1 : wr.cell? ⟨g, a * 3 + 1, none⟩ = some (.int .i64 n) := by rw [hcc.cell (p := ⟨g, a * 3 + 1, none⟩) hg]; exact c1
              have e2 : wr.cell? ⟨g, a * 3 + 2, none⟩ = some (.int .i64 u) := by rw [hcc.cell (p := ⟨g, a * 3 + 2, none⟩) hg]; exact c2
              clear hcc ht1 ht2 ht3 c0 c1 c2 hR
              go_wp2_with fail
              refine (treeOf_any k n u _ (ptsOf ks) wr HKids.out.pts (by unfold ptsOf; rw [List.length_map, ← HJ.out]; omega) HPS.out).mono ?_
              intro e w2 hN
              obtain ⟨b, rfl, hbb, hTr, hB2⟩ := treeNew_at HKids.out HTN.out hN
              have HF : Hid (TrIn w2 (fun x => w.heap.size ≤ x) t b ∧ Below w.heap.size w w2) := ⟨TrIn.mono (fun x hx _ => by have := HGS.out; have := HB.out.size; rcases hx with hx | hx <;> omega) hTr, HB.out.trans (hB2.mono HB.out.size)⟩
              clear hN hTr hB2
              go_wp2
              go_ret2
              exact ⟨by rw [HTP.out]; exact ⟨b, rfl, HF.out.1⟩, HF.out.2⟩
      · rw [treeP_neg (.inr (.inr (.inl (by rw [← HN.out]; exact hu))))]
        go_enter Tryd.func50, Tryd.ntmps50
        go_wp2_with fail
        refine (above_any k n u _).mono ?_
        rintro e w1 ⟨rfl, rfl⟩
        go_wp2
        go_ret2
        exact ⟨⟨_, rfl⟩, (Below.refl _ _).alloc (Nat.le_refl _) _⟩
    · rw [treeP_neg (.inl (by omega))]
      clear hv
      go_enter Tryd.func50, Tryd.ntmps50
      go_wp2
      go_ret2
      exact ⟨⟨_, rfl⟩, Below.refl _ _⟩
end Go.Proofs.YtgolfbjfopoeeaaDoor
