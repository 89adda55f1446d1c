/-
  What changedAt of the program makes of a tree: anew, with what a function gives in the place of the node of a number.
-/
import Derived.Test.YtbnagagdboeedaaImplRep
import Derived.Lib.Walk
import Derived.Lib.SliceRun
import Derived.OwnWalk
namespace Go.Proofs.Ytbnagagdboeedaa
open Go.RowKit BL
set_option linter.unusedVariables false

def ptrsV (bs : List Nat) : List Value := bs.map fun b => .pointer (some ⟨b, 0, none⟩)
theorem ptrsV_len (bs : List Nat) : (ptrsV bs).length = bs.length := by simp [ptrsV]
set_option maxHeartbeats 2000000 in
set_option maxRecDepth 100000 in
theorem clone_any (g cap m : Nat) (bs : List Nat) (w : World) (hm : m = bs.length) (h2 : m ≤ 2) (h1 : 1 ≤ m) (hgl : g < w.heap.size) (hc : ∀ i b, bs[i]? = some b → w.cell? ⟨g, i, none⟩ = some (.pointer (some ⟨b, 0, none⟩))) :
    Calls Try.prog 105 #[.slice (some ⟨g, 0, none⟩) m cap] w fun e w' => (∃ v, e = .returned v ∧ w'.ownsRow w.heap.size 60 1 v m (ptrsV bs)) ∧ Below w.heap.size w w' := by
  obtain ⟨i0, hi, hz0, hz1, hz2⟩ := info_parts info_ptree
  have hq : ∀ (w : World) (a : Option Addr) (n c n' c' : Nat), (binOp .eql 96 (.slice a n c) (.slice none n' c')).run Try.prog w = .ok (.bool a.isNone) w := fun w a n c n' c' => Lib.run_eql_slice_nil w _ _ a n c n' c' Try.underlying96
  have HC := hideT' hc
  have HM := hideT' hm
  clear hc hm
  go_enter Try.func105, Try.ntmps105
  go_wp2_with (at_builtin; refine wpList_append_own _ rfl _ _ 96 rfl w.heap.size 60 i0 (.pointer none) 1 8 Try.underlying96 hi hz0 hz1 hz2 rfl (by decide) _ _ _ rfl (World.ownsRow_made w #[] 0 (Nat.le_refl _) (Nat.zero_le _) rfl) ⟨g, 0, none⟩ m cap (ptrsV bs) rfl ?qc1 ?qc2 ?qc3 ?qc4 ?qc5 ?qc6 ?_)
  case qc1 => rw [ptrsV_len, ← HM.out]; omega
  case qc2 =>
    intro j u hj
    rw [Addr.add_lit]
    refine Lib.cell?_alloc_some _ ?_
    unfold ptrsV at hj
    rw [List.getElem?_map] at hj
    cases hb : bs[j]? with
    | none => rw [hb] at hj; cases hj
    | some b =>
      rw [hb] at hj
      injection hj with hj
      subst hj
      have := HC.out j b hb
      rw [Nat.zero_add]
      exact this
  case qc3 => intro u hu; obtain ⟨x, _, rfl⟩ := List.mem_map.1 hu; rfl
  case qc4 => unfold maxLen; omega
  case qc5 => omega
  case qc6 => simp
  intro v' w1 hown hgrow hnil
  have HF : Hid (w1.ownsRow w.heap.size 60 1 v' m (ptrsV bs) ∧ Below w.heap.size w w1) := ⟨by simpa using hown, ((Below.refl _ w).alloc (Nat.le_refl _) _).grown hgrow (by simp) (by intro k hk; simp [Value.ownBlock] at hk; omega)⟩
  clear hown hgrow hnil
  go_wp2
  go_ret
  exact ⟨⟨v', rfl, HF.out.1⟩, HF.out.2⟩

/-- A tree with a node changed. -/
def Lm.chgAt (f : Lm → Lm) : Lm → Nat → Lm
  | t, 0 => f t
  | .var n, _ + 1 => .var n
  | .lam t, k + 1 => if k < t.sz then .lam (Lm.chgAt f t k) else .lam t
  | .app s t, k + 1 => if k < s.sz then .app (Lm.chgAt f s k) t else if k < s.sz + t.sz then .app s (Lm.chgAt f t (k - s.sz)) else .app s t
def Lm.subAt : Lm → Nat → Option Lm
  | t, 0 => some t
  | .var _, _ + 1 => none
  | .lam t, k + 1 => t.subAt k
  | .app s t, k + 1 => if k < s.sz then s.subAt k else t.subAt (k - s.sz)
theorem Lm.subAt_lt : ∀ {t : Lm} {k : Nat} {s : Lm}, t.subAt k = some s → k < t.sz ∧ s.sz ≤ t.sz
  | .var n, 0, s, h => by rw [Lm.subAt] at h; injection h with h; subst h; exact ⟨Lm.sz_pos _, Nat.le_refl _⟩
  | .var n, k + 1, s, h => by rw [Lm.subAt] at h; cases h
  | .lam t, 0, s, h => by rw [Lm.subAt] at h; injection h with h; subst h; exact ⟨Lm.sz_pos _, Nat.le_refl _⟩
  | .lam t, k + 1, s, h => by rw [Lm.subAt] at h; have := Lm.subAt_lt h; simp only [Lm.sz]; omega
  | .app p q, 0, s, h => by rw [Lm.subAt] at h; injection h with h; subst h; exact ⟨Lm.sz_pos _, Nat.le_refl _⟩
  | .app p q, k + 1, s, h => by
    rw [Lm.subAt] at h
    split at h
    · have := Lm.subAt_lt h; simp only [Lm.sz]; omega
    · have := Lm.subAt_lt h; simp only [Lm.sz]; omega
/-- What becomes of the parts, from a number on. -/
def chgL (f : Lm → Lm) (k : Nat) : Nat → List Lm → List Lm
  | _, [] => []
  | a, p :: ps => (if a ≤ k ∧ k < a + p.sz then Lm.chgAt f p (k - a) else p) :: chgL f k (a + p.sz) ps
def szL : List Lm → Nat
  | [] => 0
  | p :: ps => p.sz + szL ps
theorem szL_app (p q : List Lm) : szL (p ++ q) = szL p + szL q := by
  induction p with
  | nil => simp [szL]
  | cons x p ih => simp only [List.cons_append, szL, ih]; omega
theorem chgL_app (f : Lm → Lm) (k : Nat) (q : List Lm) : ∀ (p : List Lm) (a : Nat), chgL f k a (p ++ q) = chgL f k a p ++ chgL f k (a + szL p) q
  | [], a => by simp [chgL, szL]
  | x :: p, a => by simp only [List.cons_append, chgL, szL]; rw [chgL_app f k q p, Nat.add_assoc]
theorem chgL_len (f : Lm → Lm) (k : Nat) : ∀ (p : List Lm) (a : Nat), (chgL f k a p).length = p.length
  | [], a => rfl
  | x :: p, a => by simp only [chgL, List.length_cons, chgL_len f k p]
theorem chgAt_node (f : Lm → Lm) (t : Lm) (k : Nat) : nodeOf t.kd t.nm (chgL f (k + 1) 1 t.kids) = some (Lm.chgAt f t (k + 1)) := by
  cases t with
  | var n => simp [Lm.kids, chgL, Lm.kd, Lm.nm, nodeOf, Lm.chgAt]
  | lam t =>
    simp only [Lm.kids, chgL, Lm.kd, Lm.nm, nodeOf, Lm.chgAt]
    by_cases h : k < t.sz
    · rw [if_pos (show 1 ≤ k + 1 ∧ k + 1 < 1 + t.sz by omega), if_pos h]; simp
    · rw [if_neg (show ¬ (1 ≤ k + 1 ∧ k + 1 < 1 + t.sz) by omega), if_neg h]; simp
  | app s t =>
    simp only [Lm.kids, chgL, Lm.kd, Lm.nm, nodeOf, Lm.chgAt]
    by_cases h : k < s.sz
    · rw [if_pos (show 1 ≤ k + 1 ∧ k + 1 < 1 + s.sz by omega), if_neg (show ¬ (1 + s.sz ≤ k + 1 ∧ k + 1 < 1 + s.sz + t.sz) by omega), if_pos h]; simp
    · rw [if_neg (show ¬ (1 ≤ k + 1 ∧ k + 1 < 1 + s.sz) by omega), if_neg h]
      by_cases h2 : k < s.sz + t.sz
      · rw [if_pos (show 1 + s.sz ≤ k + 1 ∧ k + 1 < 1 + s.sz + t.sz by omega), if_pos h2]
        rw [show k + 1 - (1 + s.sz) = k - s.sz by omega]; simp
      · rw [if_neg (show ¬ (1 + s.sz ≤ k + 1 ∧ k + 1 < 1 + s.sz + t.sz) by omega), if_neg h2]; simp
theorem subAt_kid {t s : Lm} {k : Nat} (h : t.subAt (k + 1) = some s) : ∀ (As : List Lm) (T : Lm) (Bs : List Lm), t.kids = As ++ T :: Bs → 1 + szL As ≤ k + 1 → k + 1 < 1 + szL As + T.sz → T.subAt (k + 1 - (1 + szL As)) = some s := by
  intro As T Bs hk h1 h2
  cases t with
  | var n => simp [Lm.kids] at hk
  | lam t =>
    simp only [Lm.kids] at hk
    match As, hk with
    | [], hk =>
      cases hk
      simp only [szL, Nat.add_zero] at h1 h2 ⊢
      rw [Lm.subAt] at h
      rw [show k + 1 - 1 = k by omega]; exact h
    | [_], hk => simp at hk
    | _ :: _ :: _, hk => simp at hk
  | app p q =>
    simp only [Lm.kids] at hk
    rw [Lm.subAt] at h
    match As, hk with
    | [], hk =>
      cases hk
      simp only [szL, Nat.add_zero] at h1 h2 ⊢
      rw [if_pos (by omega)] at h
      rw [show k + 1 - 1 = k by omega]; exact h
    | [_], hk =>
      cases hk
      simp only [szL, Nat.add_zero] at h1 h2 ⊢
      rw [if_neg (by omega)] at h
      rw [show k + 1 - (1 + p.sz) = k - p.sz by omega]; exact h
    | [_, _], hk => simp at hk
    | _ :: _ :: _ :: _, hk => simp at hk
theorem chgAt_szle (f : Lm → Lm) (M : Nat) (hf : ∀ s, (f s).sz ≤ M + s.sz) : ∀ (t : Lm) (k : Nat), (Lm.chgAt f t k).sz ≤ M + t.sz
  | .var n, 0 => by rw [Lm.chgAt]; exact hf _
  | .var n, k + 1 => by rw [Lm.chgAt]; simp only [Lm.sz]; omega
  | .lam t, 0 => by rw [Lm.chgAt]; exact hf _
  | .lam t, k + 1 => by
    rw [Lm.chgAt]
    split
    · have := chgAt_szle f M hf t k; simp only [Lm.sz]; omega
    · simp only [Lm.sz]; omega
  | .app s t, 0 => by rw [Lm.chgAt]; exact hf _
  | .app s t, k + 1 => by
    rw [Lm.chgAt]
    split
    · have := chgAt_szle f M hf s k; simp only [Lm.sz]; omega
    · split
      · have := chgAt_szle f M hf t (k - s.sz); simp only [Lm.sz]; omega
      · simp only [Lm.sz]; omega
/-- What is asked of the function. -/
def ChgOk (cf : Nat) (pre : Lm → Bool) (f : Lm → Lm) (Z : Nat) : Prop := ∀ (s : Lm) (b : Nat) (P : Nat → Prop) (w : World), TrIn w P s b → pre s = true → s.sz ≤ Z → s.bd →
    Calls Try.prog cf #[.pointer (some ⟨b, 0, none⟩)] w fun e w' => (∃ b', e = .returned (.pointer (some ⟨b', 0, none⟩)) ∧ TrIn w' (fun x => P x ∨ w.heap.size ≤ x) (f s) b') ∧ Below w.heap.size w w'
def ChgC (cf : Nat) (pre : Lm → Bool) (f : Lm → Lm) (Z : Nat) (N : Nat) : Prop := ∀ (t : Lm), t.sz ≤ N → ∀ (s : Lm) (b k : Nat) (P : Nat → Prop) (w : World), TrIn w P t b → t.subAt k = some s → pre s = true → t.sz ≤ Z → t.bd →
    Calls Try.prog 66 #[.pointer (some ⟨b, 0, none⟩), .int .i64 (k : Int), .func (.func cf) #[] #[]] w fun e w' => (∃ b', e = .returned (.pointer (some ⟨b', 0, none⟩)) ∧ TrIn w' (fun x => P x ∨ w.heap.size ≤ x) (Lm.chgAt f t k) b') ∧ Below w.heap.size w w'
theorem kids_ptrs {w : World} {P : Nat → Prop} {t : Lm} {b : Nat} (h : TrIn w P t b) : ∃ (o : Option Addr) (c : Nat) (ks : List (Nat × Lm)), w.cell? ⟨b, 3, none⟩ = some (.slice o t.kids.length c) ∧ ks.map Prod.snd = t.kids ∧ (∀ p ∈ ks, TrIn w P p.2 p.1) ∧ (t.kids ≠ [] → ∃ g, o = some ⟨g, 0, none⟩ ∧ g < w.heap.size ∧ P g ∧ ∀ i (p : Nat × Lm), ks[i]? = some p → w.cell? ⟨g, i, none⟩ = some (.pointer (some ⟨p.1, 0, none⟩))) := by
  cases t with
  | var n =>
    obtain ⟨_, u, o, c, h⟩ := h
    exact ⟨o, c, [], by rw [cell_of_row _ _ _ _ _ _ h]; rfl, rfl, by simp, fun h => absurd rfl h⟩
  | lam t =>
    obtain ⟨_, u, g, c, b1, h, hg, hc, h1⟩ := h
    refine ⟨_, c, [(b1, t)], by rw [cell_of_row _ _ _ _ _ _ h]; rfl, rfl, by simpa using h1, fun _ => ⟨g, rfl, hg.1, hg.2, fun i p hi => ?_⟩⟩
    match i, hi with
    | 0, hi => cases hi; exact hc
    | i + 1, hi => simp at hi
  | app s t =>
    obtain ⟨_, u, g, c, b1, b2, h, hg, hc, hc2, h1, h2⟩ := h
    refine ⟨_, c, [(b1, s), (b2, t)], by rw [cell_of_row _ _ _ _ _ _ h]; rfl, rfl, by simp; exact ⟨h1, h2⟩, fun _ => ⟨g, rfl, hg.1, hg.2, fun i p hi => ?_⟩⟩
    match i, hi with
    | 0, hi => cases hi; exact hc
    | 1, hi => cases hi; exact hc2
    | i + 2, hi => simp at hi
set_option maxHeartbeats 8000000 in
set_option maxRecDepth 100000 in
theorem changedAt_step (cf : Nat) (pre : Lm → Bool) (f : Lm → Lm) (Z M : Nat) (eg : ∀ args w, (callFunc cf args).run Try.prog w = .ok (.enter cf args) w) (hf : ∀ s, (f s).sz ≤ M + s.sz) (hZ : Z ≤ 1000) (hM : M ≤ 900000) (hch : ChgOk cf pre f Z) (N : Nat) (IH : ∀ n, n < N → ChgC cf pre f Z n) : ChgC cf pre f Z N := by
  intro t ht s b k P w hT hsub hpre hsz hbd
  have hbl := hT.lt
  by_cases hk0 : k = 0
  · subst hk0
    have hts : t = s := by cases t <;> (rw [Lm.subAt] at hsub; injection hsub)
    subst hts
    have HC := hideT' (hch t b P w hT hpre hsz hbd)
    have HE : Hid (Lm.chgAt f t 0 = f t) := by unfold Hid; cases t <;> rw [Lm.chgAt]
    clear IH hT hsub hpre hbd
    go_enter Try.func66, Try.ntmps66
    go_wp2_with fail
    refine HC.out.mono ?_
    rintro e w2 ⟨⟨b', rfl, hT2⟩, hB2⟩
    have HF := hideT' (And.intro hT2 hB2)
    clear hT2 hB2
    go_wp2
    go_ret
    exact ⟨⟨b', rfl, by rw [HE.out]; exact HF.out.1⟩, HF.out.2⟩
  · obtain ⟨k', rfl⟩ : ∃ k', k = k' + 1 := ⟨k - 1, by omega⟩
    have hne : t.kids ≠ [] := by cases t <;> simp [Lm.kids, Lm.subAt] at hsub ⊢
    obtain ⟨o, c, ks, hpc, hks, hTk, hgo⟩ := kids_ptrs hT
    obtain ⟨g, rfl, hg, hPg, hcell⟩ := hgo hne
    obtain ⟨u, c0, c1, c2⟩ := hT.own3
    obtain ⟨q, hq⟩ : ∃ q, q = t.kids.length := ⟨_, rfl⟩
    have hq2 : q ≤ 2 := by rw [hq]; cases t <;> simp [Lm.kids]
    have hq1 : 1 ≤ q := by rw [hq]; exact List.length_pos_iff.2 hne
    rw [← hq] at hpc
    have hkl : q = (ks.map Prod.fst).length := by rw [hq, ← hks, List.length_map, List.length_map]
    have HCL := hideT' (clone_any g c q (ks.map Prod.fst) w hkl hq2 hq1 hg (fun i bb hi => by
      rw [List.getElem?_map] at hi
      cases hp : ks[i]? with
      | none => rw [hp] at hi; cases hi
      | some p => rw [hp] at hi; injection hi with hi; subst hi; exact hcell i p hp))
    have HIH := hideT' IH
    have HTN := hideT' ht
    have HT := hideT' hT
    have HSUB := hideT' (And.intro hsub (And.intro hpre hbd))
    have HQ := hideT' hq
    have HKS := hideT' hks
    have HTK := hideT' hTk
    have hkz : k' + 1 < t.sz := (Lm.subAt_lt hsub).1
    have hk1000 : k' + 1 ≤ 1000 := by omega
    have hkb : ((k' + 1 : Nat) : Int) ≠ 0 := by omega
    obtain ⟨K, hK⟩ : ∃ K : Nat, K = k' + 1 := ⟨_, rfl⟩
    rw [← hK] at hkb hkz hk1000 HSUB ⊢
    have hKz : ¬ (K : Int) = 0 := hkb
    have hKb : ((K : Int) == 0) = false := by simp only [beq_eq_false_iff_ne]; exact hKz
    have HNODE : Hid (nodeOf t.kd t.nm (chgL f K 1 t.kids) = some (Lm.chgAt f t K)) := by unfold Hid; rw [hK]; exact chgAt_node f t k'
    have HSK : Hid (∀ (As : List Lm) (T : Lm) (Bs : List Lm), t.kids = As ++ T :: Bs → 1 + szL As ≤ K → K < 1 + szL As + T.sz → T.subAt (K - (1 + szL As)) = some s) := by unfold Hid; rw [hK]; exact subAt_kid hsub
    obtain ⟨kd, hkd⟩ : ∃ kd, kd = t.kd := ⟨_, rfl⟩
    obtain ⟨nm, hnm⟩ : ∃ nm, nm = t.nm := ⟨_, rfl⟩
    rw [← hkd, ← hnm] at HNODE
    rw [← hkd] at c0
    rw [← hnm] at c1
    clear IH ht hT hsub hpre hbd hne hkl hcell hq hks hTk hkb hK hkd hnm
    go_enter Try.func66, Try.ntmps66
    go_wp2_with fail
    refine HCL.out.mono ?_
    rintro e w1 ⟨⟨v, rfl, hO1⟩, hB1⟩
    obtain ⟨ov, cv, hvv⟩ := own_formT hO1
    subst hvv
    have hgv : ∃ gv, ov = some ⟨gv, 0, none⟩ := by
      rcases hO1.2 with ⟨h, _⟩ | ⟨g1, cap1, cur, h, _⟩
      · injection h with h1 h2 h3; omega
      · injection h with h1 h2 h3; exact ⟨g1, h1⟩
    obtain ⟨gv, rfl⟩ := hgv
    have hgl := hO1.lt gv rfl
    have HO1 := hideT' hO1
    have HB1 := hideT' hB1
    have HGV : Hid (w.heap.size ≤ gv) := hgl.1
    clear hO1 hB1 hgl
    go_wp2_with fail
    go_loopg [8, 23] q (fun gg fv i wr => ∃ (As Bs : List (Nat × Lm)) (ns : List (Nat × Lm)) (F : Nat), gg = Bs.length ∧ Hid (ks = As ++ Bs ∧ ns.map Prod.snd = chgL f K 1 (As.map Prod.snd) ∧ F = 1 + szL (As.map Prod.snd) ∧ wr.ownsRow w.heap.size 60 1 (.slice (some ⟨gv, 0, none⟩) q cv) q (ptrsV (ns.map Prod.fst ++ Bs.map Prod.fst)) ∧ (∀ p ∈ ns, TrIn wr (fun x => (P x ∧ x < w.heap.size) ∨ (w.heap.size ≤ x ∧ x ≠ gv)) p.2 p.1) ∧ Below w.heap.size w wr) ∧ i = .int .i64 (As.length : Int) ∧ fv = .int .i64 (F : Int) ∧ F ≤ 1001 ∧ gv < wr.heap.size)
    case atStart => exact ⟨[], ks, [], 1, by rw [HQ.out, ← HKS.out, List.length_map], ⟨rfl, rfl, rfl, HO1.out, by simp, HB1.out⟩, rfl, rfl, by omega, (HO1.out.lt gv rfl).2⟩
    case round =>
      obtain ⟨As, Bs, ns, F, hgg, HS, rfl, rfl, hF, hgvl⟩ := hrel
      obtain ⟨j, hj⟩ : ∃ j, j = As.length := ⟨_, rfl⟩
      rw [← hj]
      have HJ := hideT' hj
      have hnl : ns.length = As.length := by
        have := congrArg List.length HS.out.2.1
        rw [List.length_map, chgL_len, List.length_map] at this
        exact this
      have HNL := hideT' hnl
      clear hj hnl
      have hqs : q = As.length + Bs.length := by rw [HQ.out, ← HKS.out, List.length_map, HS.out.1, List.length_append]
      cases Bs with
      | nil =>
        have hjm : j = q := by rw [HJ.out, hqs]; simp
        have hnlt : ¬ (j : Int) < (q : Int) := by omega
        obtain ⟨e1, e2, e3, hOw, hTn, hBr⟩ := HS.out
        simp only [List.map_nil, List.append_nil] at e1 hOw
        have HKids : Hid (KidsAt wr (fun x => P x ∨ w.heap.size ≤ x) (.slice (some ⟨gv, 0, none⟩) q cv) ns) := by
          refine ⟨_, cv, by rw [HNL.out, ← HJ.out, hjm], fun _ => ⟨gv, rfl, ⟨hgvl, .inr HGV.out⟩, fun i p hi => ?_⟩, fun p hp => TrIn.mono (fun x hx _ => by rcases hx with hx | hx; exact .inl hx.1; exact .inr hx.1) (hTn p hp)⟩
          have hil : i < ns.length := (List.getElem?_eq_some_iff.1 hi).1
          rw [World.ownsRow.cellAt hOw i (by rw [HNL.out, ← HJ.out] at hil; omega)]
          unfold ptrsV
          rw [List.getElem?_map, List.getElem?_map, hi]; rfl
        have HN2 : Hid (nodeOf kd nm (ns.map Prod.snd) = some (Lm.chgAt f t K)) := by unfold Hid; rw [e2, ← e1, HKS.out]; exact HNODE.out
        have HPS : Hid (∀ p ∈ ptsOf ns, p.2.1 ≤ 1000000 ∧ p.2.2 ≤ 1000000) := by
          intro p hp
          obtain ⟨y, hy, rfl⟩ := List.mem_map.1 hp
          have h1 : y.2 ∈ ns.map Prod.snd := List.mem_map_of_mem hy
          have hle : y.2.sz ≤ M + 1000 := by
            rw [e2, ← e1, HKS.out] at h1
            have key : ∀ (ls : List Lm) (a : Nat), (∀ l ∈ ls, l.sz ≤ 1000) → ∀ l ∈ chgL f K a ls, l.sz ≤ M + 1000 := by
              intro ls
              induction ls with
              | nil => intro a _ l hl; simp [chgL] at hl
              | cons z ls ih =>
                intro a hz l hl
                rw [chgL] at hl
                have hzz := hz z (by simp)
                rcases List.mem_cons.1 hl with rfl | hl
                · split
                  · have := chgAt_szle f M hf z (K - a); omega
                  · omega
                · exact ih _ (fun l h => hz l (by simp [h])) l hl
            exact key t.kids 1 (fun l hl => by have := Lm.kids_lt hl; omega) _ h1
          have h3 := y.2.dp_sz
          simp only; omega
        have d0 : wr.cell? ⟨b, 0, none⟩ = some (.int .i64 kd) := by rw [hBr.cell (p := ⟨b, 0, none⟩) hbl]; exact c0
        have d1 : wr.cell? ⟨b, 1, none⟩ = some (.int .i64 nm) := by rw [hBr.cell (p := ⟨b, 1, none⟩) hbl]; exact c1
        have d2 : wr.cell? ⟨b, 2, none⟩ = some (.int .i64 u) := by rw [hBr.cell (p := ⟨b, 2, none⟩) hbl]; exact c2
        have hbr : b < wr.heap.size := by have := hBr.size; omega
        have HBR := hideT' hBr
        clear e1 e2 e3 hOw hTn hBr HS hgg hqs
        go_wp2_with fail
        refine (treeOf_any kd nm u _ (ptsOf ns) wr HKids.out.pts (by unfold ptsOf; rw [List.length_map, HNL.out, ← HJ.out]; omega) HPS.out).mono ?_
        intro e w2 hN
        obtain ⟨b', rfl, hbb, hTr, hB2⟩ := treeNew_at HKids.out HN2.out hN
        have HF : Hid (TrIn w2 (fun x => P x ∨ w.heap.size ≤ x) (Lm.chgAt f t K) b' ∧ Below w.heap.size w w2) := ⟨TrIn.mono (fun x hx _ => by have := HBR.out.size; rcases hx with hx | hx; exact hx; exact .inr (by omega)) hTr, HBR.out.trans (hB2.mono HBR.out.size)⟩
        clear hN hTr hB2
        go_wp2
        go_ret
        exact ⟨⟨b', rfl, HF.out.1⟩, HF.out.2⟩
      | cons p Bs =>
        obtain ⟨pb, T⟩ := p
        have hil : (j : Int) < (q : Int) := by rw [hqs, ← HJ.out]; simp; omega
        obtain ⟨e1, e2, e3, hOw, hTn, hBr⟩ := HS.out
        have hcj : wr.cell? ⟨gv, j, none⟩ = some (.pointer (some ⟨pb, 0, none⟩)) := by
          rw [World.ownsRow.cellAt hOw j (by omega)]
          unfold ptrsV
          rw [List.getElem?_map, List.getElem?_append_right (by rw [List.length_map, HNL.out, ← HJ.out]; exact Nat.le_refl _), List.length_map, HNL.out, ← HJ.out, Nat.sub_self]
          rfl
        have hTp0 : TrIn w P T pb := HTK.out (pb, T) (by rw [e1]; simp)
        have hTp : TrIn wr (fun x => P x ∧ x < w.heap.size) T pb := TrIn.keep (w := w) hBr.size (fun x _ hx => hBr.block x hx) (fun x h hx => ⟨h, hx⟩) hTp0
        have hp4 := hTp.size
        have hpbl : pb < wr.heap.size := hTp.lt
        have hpw : pb < w.heap.size := hTp0.lt
        have hTm : T ∈ t.kids := by rw [← HKS.out, e1]; simp
        have hTs := Lm.kids_lt hTm
        have hkids : t.kids = As.map Prod.snd ++ T :: Bs.map Prod.snd := by rw [← HKS.out, e1]; simp
        have hwz : IntKind.i64.wrap ((F : Int) + (T.sz : Int)) = (F : Int) + (T.sz : Int) := by rw [IntKind.wrap_i64]; omega
        have hF2 : F + T.sz ≤ 1001 := by
          have hs1 : szL t.kids + 1 ≤ t.sz := by cases t <;> simp [Lm.kids, szL, Lm.sz] <;> omega
          rw [hkids, szL_app] at hs1
          simp only [szL] at hs1
          omega
        have HE3 := hideT' e3
        have HTP := hideT' hTp
        by_cases hin : F ≤ K ∧ K < F + T.sz
        · obtain ⟨hin1, hin2⟩ := hin
          have hi1 : (F : Int) ≤ (K : Int) := by omega
          have hi2 : (K : Int) < (F : Int) + (T.sz : Int) := by omega
          have hwk : IntKind.i64.wrap ((K : Int) - (F : Int)) = ((K - F : Nat) : Int) := by rw [IntKind.wrap_i64]; omega
          have HCALL := hideT' (HIH.out T.sz (by have := HTN.out; omega) T (Nat.le_refl _) s pb (K - F) (fun x => P x ∧ x < w.heap.size) wr hTp (by rw [e3]; exact HSK.out (As.map Prod.snd) T (Bs.map Prod.snd) hkids (by omega) (by omega)) HSUB.out.2.1 (by omega) (Lm.bd_kid HSUB.out.2.2 hTm))
          have hcast : ((K - F : Nat) : Int) = (K : Int) - (F : Int) := by omega
          rw [hcast] at HCALL hwk
          have HSN : Hid (ns.map Prod.snd ++ [Lm.chgAt f T (K - F)] = chgL f K 1 ((As ++ [(pb, T)]).map Prod.snd)) := by
            unfold Hid
            rw [List.map_append, chgL_app, e2]
            simp only [List.map_cons, List.map_nil, chgL]
            rw [← e3, if_pos ⟨hin1, hin2⟩]
          have HOW := hideT' hOw
          have HTNN := hideT' hTn
          have HBR := hideT' hBr
          have HE1 := hideT' e1
          clear e1 e2 e3 hOw hTn hBr hTp hTp0 hkids hTm hcast HS hqs
          go_wp2_with fail
          refine HCALL.out.mono ?_
          rintro e w5 ⟨⟨b', rfl, hT5⟩, hB5⟩
          have hO5 : w5.ownsRow w.heap.size 60 1 (.slice (some ⟨gv, 0, none⟩) q cv) q (ptrsV (ns.map Prod.fst ++ ((pb, T) :: Bs).map Prod.fst)) := own_keep HOW.out (fun gg e => hB5.block gg (HOW.out.lt gg e).2)
          have hp45 : w5.cell? ⟨pb, 4, none⟩ = some (.int .i64 (T.sz : Int)) := by rw [hB5.cell (p := ⟨pb, 4, none⟩) hpbl]; exact hp4
          have hne : pb ≠ gv := by have := HGV.out; omega
          have HT5 := hideT' hT5
          have HB5 := hideT' hB5
          clear hT5 hB5 hp4
          go_wp2_with (refine store_own rfl 60 _ _ rfl rfl gv j (.pointer (some ⟨b', 0, none⟩)) rfl rfl one_ptree rfl hO5 (by omega) ?_; intro w6 hO6 hg6 hs6; have hp46 : w6.cell? ⟨pb, 4, none⟩ = some (.int .i64 (T.sz : Int)) := (by rw [World.cell?_of_block (w := w5) (a := ⟨pb, 4, none⟩) (hg6.block pb (by have := HB5.out.size; omega) (by intro e; injection e with e; exact hne e))]; exact hp45); have HO6 := hideT' hO6; have HG6 := hideT' hg6; clear hO6 hg6)
          have hs5 := HB5.out.size
          have HEND : Hid (ks = (As ++ [(pb, T)]) ++ Bs ∧ (ns ++ [(b', Lm.chgAt f T (K - F))]).map Prod.snd = chgL f K 1 ((As ++ [(pb, T)]).map Prod.snd) ∧ F + T.sz = 1 + szL ((As ++ [(pb, T)]).map Prod.snd) ∧ w6.ownsRow w.heap.size 60 1 (.slice (some ⟨gv, 0, none⟩) q cv) q (ptrsV ((ns ++ [(b', Lm.chgAt f T (K - F))]).map Prod.fst ++ Bs.map Prod.fst)) ∧ (∀ p ∈ ns ++ [(b', Lm.chgAt f T (K - F))], TrIn w6 (fun x => (P x ∧ x < w.heap.size) ∨ (w.heap.size ≤ x ∧ x ≠ gv)) p.2 p.1) ∧ Below w.heap.size w w6) := by
            refine ⟨by rw [HE1.out]; simp, by rw [List.map_append]; exact HSN.out, by rw [HE3.out, List.map_append, szL_app]; simp [szL]; omega, ?_, fun p hp => ?_, ?_⟩
            · have e : (ptrsV (ns.map Prod.fst ++ ((pb, T) :: Bs).map Prod.fst)).set j (.pointer (some ⟨b', 0, none⟩)) = ptrsV ((ns ++ [(b', Lm.chgAt f T (K - F))]).map Prod.fst ++ Bs.map Prod.fst) := by
                unfold ptrsV
                rw [List.map_append, List.set_append_right _ _ (by simp only [List.length_map, HNL.out, ← HJ.out]; exact Nat.le_refl _)]
                simp only [List.length_map, HNL.out, ← HJ.out, Nat.sub_self, List.map_cons, List.set_cons_zero, List.map_append, List.map_nil, List.append_assoc, List.cons_append, List.nil_append]
              rw [← e]; exact HO6.out
            · have hgn : ¬ ((P gv ∧ gv < w.heap.size) ∨ (w.heap.size ≤ gv ∧ gv ≠ gv)) := by have := HGV.out; omega
              rcases List.mem_append.1 hp with hp | hp
              · exact TrIn.grown HG6.out hgn (TrIn.below HB5.out (HTNN.out p hp))
              · rw [List.mem_singleton] at hp
                subst hp
                exact TrIn.grown HG6.out hgn (TrIn.mono (fun x hx _ => by rcases hx with hx | hx; exact .inl hx; exact .inr ⟨by have := HBR.out.size; omega, by omega⟩) HT5.out)
            · exact (HBR.out.trans (HB5.out.mono HBR.out.size)).grown HG6.out (by have := HBR.out.size; omega) (by intro k hk; cases hk; exact HGV.out)
          have hg6l : gv < w6.heap.size := by omega
          go_wp2
          go_roundg Bs.length
          case measure => first | omega | (rw [hgg]; simp)
          case rel => exact ⟨As ++ [(pb, T)], Bs, ns ++ [(b', Lm.chgAt f T (K - F))], F + T.sz, rfl, HEND, by rw [List.length_append, ← HJ.out]; go_num, by go_num, hF2, hg6l⟩
        · have HEND : Hid (ks = (As ++ [(pb, T)]) ++ Bs ∧ (ns ++ [(pb, T)]).map Prod.snd = chgL f K 1 ((As ++ [(pb, T)]).map Prod.snd) ∧ F + T.sz = 1 + szL ((As ++ [(pb, T)]).map Prod.snd) ∧ wr.ownsRow w.heap.size 60 1 (.slice (some ⟨gv, 0, none⟩) q cv) q (ptrsV ((ns ++ [(pb, T)]).map Prod.fst ++ Bs.map Prod.fst)) ∧ (∀ p ∈ ns ++ [(pb, T)], TrIn wr (fun x => (P x ∧ x < w.heap.size) ∨ (w.heap.size ≤ x ∧ x ≠ gv)) p.2 p.1) ∧ Below w.heap.size w wr) := by
            refine ⟨by rw [e1]; simp, ?_, by rw [e3, List.map_append, szL_app]; simp [szL]; omega, ?_, fun p hp => ?_, hBr⟩
            · rw [List.map_append, List.map_append, chgL_app, e2]
              simp only [List.map_cons, List.map_nil, chgL]
              rw [← e3, if_neg hin]
            · have e : (ns ++ [(pb, T)]).map Prod.fst ++ Bs.map Prod.fst = ns.map Prod.fst ++ ((pb, T) :: Bs).map Prod.fst := by simp
              rw [e]; exact hOw
            · rcases List.mem_append.1 hp with hp | hp
              · exact hTn p hp
              · rw [List.mem_singleton] at hp
                subst hp
                exact TrIn.mono (fun x hx _ => .inl hx) HTP.out
          clear e1 e2 e3 hOw hTn hBr hTp hTp0 hkids hTm HS hqs
          by_cases hlo : F ≤ K
          · have hi1 : (F : Int) ≤ (K : Int) := by omega
            have hi2 : ¬ (K : Int) < (F : Int) + (T.sz : Int) := by omega
            go_wp2
            go_roundg Bs.length
            case measure => first | omega | (rw [hgg]; simp)
            case rel => exact ⟨As ++ [(pb, T)], Bs, ns ++ [(pb, T)], F + T.sz, rfl, HEND, by rw [List.length_append, ← HJ.out]; go_num, by go_num, hF2, hgvl⟩
          · have hi1 : ¬ (F : Int) ≤ (K : Int) := by omega
            go_wp2
            go_roundg Bs.length
            case measure => first | omega | (rw [hgg]; simp)
            case rel => exact ⟨As ++ [(pb, T)], Bs, ns ++ [(pb, T)], F + T.sz, rfl, HEND, by rw [List.length_append, ← HJ.out]; go_num, by go_num, hF2, hgvl⟩
theorem changedAt_all (cf : Nat) (pre : Lm → Bool) (f : Lm → Lm) (Z M : Nat) (eg : ∀ args w, (callFunc cf args).run Try.prog w = .ok (.enter cf args) w) (hf : ∀ s, (f s).sz ≤ M + s.sz) (hZ : Z ≤ 1000) (hM : M ≤ 900000) (hch : ChgOk cf pre f Z) : ∀ N, ChgC cf pre f Z N := by
  intro N
  induction N using Nat.strongRecOn with
  | _ N IH => exact changedAt_step cf pre f Z M eg hf hZ hM hch N IH
end Go.Proofs.Ytbnagagdboeedaa
