/-
  The texts SpecRed, ReduceT, DevelopA, DevelopS, DevelopT, MarkTerm, TermArg, one behind the other, as one.
-/
import Derived.Test.YtbnagagdboeedaaSpecGoodT
import Derived.Test.YtbnagagdboeedaaImplRedB
import Derived.Test.YtbnagagdboeedaaReduceA
import Derived.Test.YtbnagagdboeedaaTold
import Derived.Test.YtbnagagdboeedaaRecs2
import Derived.Test.YtbnagagdboeedaaRecTerm
import Derived.Test.YtbnagagdboeedaaRecArg
import Derived.Test.YtbnagagdboeedaaTreeMem

/-
  What lcRedexes and RedexesIn of the model answer; RedexesIn of the program.
-/
namespace Go.Proofs.Ytbnagagdboeedaa
open Go.RowKit BL
set_option linter.unusedVariables false

theorem Seg.spot {l : List Nd} : ∀ {t : Lm} {a : Nat} {up : Int}, Seg l t a up → ∀ m, ∀ x ∈ t.walk a up m, ndAt l x.at_ = x.nd ∧ x.at_ + x.t.sz ≤ a + t.sz
  | .var n, a, up, h, m, x, hx => by
    simp only [Lm.walk, List.mem_singleton] at hx
    subst hx
    exact ⟨h.nd, Nat.le_refl _⟩
  | .lam t, a, up, h, m, x, hx => by
    rw [Lm.walk] at hx
    rcases List.mem_cons.1 hx with rfl | hx
    · exact ⟨h.nd, Nat.le_refl _⟩
    · have := Seg.spot h.2 _ x hx
      exact ⟨this.1, by have := this.2; simp only [Lm.sz]; omega⟩
  | .app s t, a, up, h, m, x, hx => by
    rw [Lm.walk] at hx
    rcases List.mem_cons.1 hx with rfl | hx
    · exact ⟨h.nd, Nat.le_refl _⟩
    · rcases List.mem_append.1 hx with hx | hx
      · have := Seg.spot h.2.1 _ x hx
        exact ⟨this.1, by have := this.2; simp only [Lm.sz]; omega⟩
      · have := Seg.spot h.2.2 _ x hx
        exact ⟨this.1, by have := this.2; simp only [Lm.sz]; omega⟩
/-- An application has a node behind it. -/
theorem flat_next (t : Lm) (k : Nat) (hk : k < t.sz) (h3 : (ndAt (t.flat 0 (-1)) k).k = 3) : k + 1 < t.sz := by
  have h1 : k ∈ (t.walk 0 (-1) 0).map Spot.at_ := by rw [Lm.walk_ats]; simp [List.mem_range']; omega
  obtain ⟨x, hx, rfl⟩ := List.mem_map.1 h1
  have h2 := Seg.spot (Seg.whole t) 0 x hx
  rw [h2.1] at h3
  simp only [Spot.nd] at h3
  cases hx' : x.t with
  | var n => rw [hx'] at h3; simp [Lm.kd] at h3
  | lam s => rw [hx'] at h3; simp [Lm.kd] at h3
  | app p q =>
    have h4 := h2.2
    rw [hx'] at h4
    simp only [Lm.sz] at h4
    have := p.sz_pos
    omega
def redsTo (l : List Nd) (k : Nat) : List Nat := (List.range k).filter (redN l)
theorem redsTo_succ (l : List Nd) (k : Nat) : redsTo l (k + 1) = redsTo l k ++ (if redN l k then [k] else []) := by
  unfold redsTo
  rw [List.range_succ, List.filter_append]
  congr 1
  cases h : redN l k <;> simp [List.filter, h]
theorem redsTo_le (l : List Nd) (k : Nat) : (redsTo l k).length ≤ k := by
  unfold redsTo
  exact Nat.le_trans (List.length_filter_le _ _) (by simp)

set_option maxHeartbeats 4000000 in
set_option maxRecDepth 100000 in
theorem lcRedexes_any (t : Lm) (v : Value) (w : World) (hv : NdIn w v (t.flat 0 (-1))) (hs : t.sz ≤ 1000000) :
    Calls Try.prog 103 #[v] w fun e w' => (∃ u, e = .returned u ∧ OwnR w' w.heap.size u 3 intL 1 (natsI t.reds)) ∧ Below w.heap.size w w' := by
  have HV := hideT' hv
  obtain ⟨o, cap, rfl⟩ := hv.len
  clear hv
  obtain ⟨i0, hi, hz0, hz1, hz2⟩ := info_parts info_int
  have hz := zero_term.1
  obtain ⟨l, hl⟩ : ∃ l, l = t.flat 0 (-1) := ⟨_, rfl⟩
  rw [← hl] at HV ⊢
  obtain ⟨n, hn⟩ : ∃ n, n = l.length := ⟨_, rfl⟩
  have HNS : Hid (n = t.sz) := by unfold Hid; rw [hn, hl, Lm.flat_sz]
  have HNX : Hid (∀ k, k < n → (ndAt l k).k = 3 → k + 1 < n) := fun k hk h3 => by rw [HNS.out]; exact flat_next t k (by rw [← HNS.out]; exact hk) (by rw [← hl]; exact h3)
  have HRE : Hid (redsTo l n = t.reds) := by
    unfold Hid
    rw [← redsN_flat, ← hl, hn]; rfl
  have HNN := hideT' hn
  have hn1 : n ≤ 1000000 := by rw [HNS.out]; exact hs
  rw [← hn]
  clear hn hl hs
  go_enter Try.func103, Try.ntmps103
  go_wp2_with fail
  go_loopg [3, 8] n (fun g x i wr => ∃ k : Nat, g = n - k ∧ k ≤ n ∧ i = .int .i64 (k : Int) ∧ OwnR wr w.heap.size x 3 intL 1 (natsI (redsTo l k)) ∧ Below w.heap.size w wr)
  case atStart => exact ⟨0, rfl, by omega, by go_num, World.ownsRow_nil _ _ _ _, Below.refl _ _⟩
  case round =>
    obtain ⟨k, hg, hk, rfl, hO, hW⟩ := hrel
    obtain ⟨o2, cap2, hv2⟩ := own_formT hO
    have HO := hideT' hO
    subst hv2
    by_cases hlt : (k : Int) < (n : Int)
    · obtain ⟨nd, hnd⟩ : ∃ nd, nd = ndAt l k := ⟨_, rfl⟩
      obtain ⟨b, rfl, hb, c0, c1, c2⟩ := (HV.out.below hW).cells (by have := HNN.out; omega) hnd
      have hb' : b < wr.heap.size := hb
      have hsucc := redsTo_succ l k
      have hpl := redsTo_le l k
      rw [← natsI_len] at hpl
      have HW := hideT' hW
      have hsz := hW.size
      have HKD : Hid ((ndAt l k).k = nd.k) := by unfold Hid; rw [hnd]
      clear hb hnd hO hW
      obtain ⟨kd, nm, u⟩ := nd
      simp only at c0 c1 c2 HKD
      have hAl : Below w.heap.size w (wr.alloc (.cells #[.int .i64 kd, .int .i64 nm, .int .i64 u] 57)) := HW.out.alloc hsz _
      have HAL := hideT' hAl
      clear hAl
      by_cases h3 : kd = 3
      · subst h3
        have hk1 := HNX.out k (by omega) HKD.out
        obtain ⟨nd2, hnd2⟩ : ∃ nd2, nd2 = ndAt l (k + 1) := ⟨_, rfl⟩
        obtain ⟨b2, e2, _, d0, _, _⟩ := (HV.out.below HW.out).cells (by have := HNN.out; omega) hnd2
        cases e2
        have HRN : Hid (redN l k = decide (nd2.k = 2)) := by unfold Hid redN; rw [HKD.out, ← hnd2]; simp
        clear hnd2
        obtain ⟨kd2, nm2, u2⟩ := nd2
        simp only at d0 HRN
        have hcast : ((k + 1 : Nat) : Int) = (k : Int) + 1 := by omega
        have HCA := hideT' hcast
        clear hcast
        by_cases h2 : kd2 = 2
        · have HS : Hid (natsI (redsTo l (k + 1)) = natsI (redsTo l k) ++ [(k : Int)]) := by unfold Hid; rw [hsucc, HRN.out, decide_eq_true h2]; simp [natsI]
          clear hsucc
          go_wp2_with (at_builtin; refine wpList_append_own _ rfl _ _ 24 rfl w.heap.size 3 i0 (.int .i64 0) 1 8 Try.underlying24 hi hz0 hz1 hz2 rfl (by decide) _ _ _ rfl ((HO.out.alloc _).alloc _) ⟨wr.heap.size + 1, 0, none⟩ 1 1 [.int .i64 (k : Int)] rfl rfl (by have := cell_one_new (wr.alloc (.cells #[.int .i64 3, .int .i64 nm, .int .i64 u] 57)) (.int .i64 (k : Int)) 3; rw [World.size_alloc] at this; exact this) (oneT_cell _) (by unfold maxLen; omega) (by omega) (by simp; omega) ?_; intro v' w4 hown' hgrow _)
          have hgb : ∀ g, (Value.slice o2 (natsI (redsTo l k)).length cap2).ownBlock = some g → w.heap.size ≤ g := fun g e => (HO.out.lt g e).1
          go_roundg (n - (k + 1))
          case measure => omega
          case rel =>
            refine ⟨k + 1, rfl, by omega, by go_num, ?_, ?_⟩
            · rw [HS.out]
              unfold OwnR
              rw [List.length_append, List.flatMap_append]
              exact hown'
            · exact (HAL.out.alloc (by simp; omega) _).grown hgrow (by simp; omega) (fun k hk => hgb _ hk)
        · have HS : Hid (natsI (redsTo l (k + 1)) = natsI (redsTo l k)) := by unfold Hid; rw [hsucc, HRN.out, decide_eq_false h2]; simp
          clear hsucc
          go_wp2
          go_roundg (n - (k + 1))
          case measure => omega
          case rel => exact ⟨k + 1, rfl, by omega, by go_num, by rw [HS.out]; exact HO.out.alloc _, HAL.out⟩
      · have HS : Hid (natsI (redsTo l (k + 1)) = natsI (redsTo l k)) := by unfold Hid; rw [hsucc]; unfold redN; rw [HKD.out, decide_eq_false h3]; simp
        clear hsucc
        go_wp2
        go_roundg (n - (k + 1))
        case measure => omega
        case rel => exact ⟨k + 1, rfl, by omega, by go_num, by rw [HS.out]; exact HO.out.alloc _, HAL.out⟩
    · have hkn : k = n := by omega
      subst hkn
      clear hO
      go_wp2
      go_ret
      exact ⟨⟨_, rfl, by rw [← HRE.out]; exact HO.out⟩, hW⟩

/-- The answer of both RedexesIn. -/
def RedB (l : List Nd) : Bool := goodS l
def RedL (l : List Nd) : List Int := match readP' l with | none => [] | some t => natsI t.reds
def RedOut (w : World) (l : List Nd) (e : Ending) (w' : World) : Prop :=
  ∃ u, e = .returned (.tuple #[u, .bool (RedB l)]) ∧ OwnR w' w.heap.size u 3 intL 1 (RedL l)
theorem own_keep' {w w' : World} {B n s : Nat} {T : TypeId} {v : Value} {xs : List Value} {row : Option Nat} (h : w.ownsRow B T s v n xs) (hg : w.grownBy w' row) (hr : ∀ g, v.ownBlock = some g → some g ≠ row) : w'.ownsRow B T s v n xs :=
  own_keep h (fun g e => hg.block g (h.lt g e).2 (hr g e))
theorem readP'_good {l : List Nd} {t : Lm} (h : readP' l = some t) : l = t.flat 0 (-1) ∧ t.sz ≤ 150 := by
  have := (readP'_iff l t).1 h
  exact ⟨this.1, (Lm.good_sz this.2).1⟩
theorem RedL_len (l : List Nd) : (RedL l).length ≤ 1048576 := by
  unfold RedL
  split
  · simp
  · next t h =>
    have h1 := (readP'_good h).2
    rw [natsI_len]
    unfold Lm.reds
    rw [List.length_map]
    have h2 := List.length_filter_le (fun x : Spot => x.t.isRed) (t.walk 0 (-1) 0)
    rw [Lm.walk_len] at h2
    omega
end Go.Proofs.Ytbnagagdboeedaa

/-
  What both ReduceAt answer.
-/
namespace Go.Proofs.Ytbnagagdboeedaa
open Go.RowKit BL
set_option linter.unusedVariables false

theorem Lm.walk_subAt : ∀ (t : Lm) (a : Nat) (u : Int) (m : Nat) (x : Spot), x ∈ t.walk a u m → a ≤ x.at_ ∧ x.at_ < a + t.sz ∧ t.subAt (x.at_ - a) = some x.t
  | .var n, a, u, m, x, h => by
    simp only [Lm.walk, List.mem_singleton] at h
    subst h
    exact ⟨Nat.le_refl _, by simp [Lm.sz], by simp [Lm.subAt]⟩
  | .lam t, a, u, m, x, h => by
    rw [Lm.walk] at h
    rcases List.mem_cons.1 h with rfl | h
    · exact ⟨Nat.le_refl _, by simp [Lm.sz], by simp [Lm.subAt]⟩
    · obtain ⟨h1, h2, h3⟩ := Lm.walk_subAt t _ _ _ x h
      refine ⟨by omega, by simp only [Lm.sz]; omega, ?_⟩
      rw [show x.at_ - a = (x.at_ - (a + 1)) + 1 by omega, Lm.subAt]; exact h3
  | .app s t, a, u, m, x, h => by
    rw [Lm.walk] at h
    rcases List.mem_cons.1 h with rfl | h
    · exact ⟨Nat.le_refl _, by simp [Lm.sz], by simp [Lm.subAt]⟩
    · rcases List.mem_append.1 h with h | h
      · obtain ⟨h1, h2, h3⟩ := Lm.walk_subAt s _ _ _ x h
        refine ⟨by omega, by simp only [Lm.sz]; omega, ?_⟩
        rw [show x.at_ - a = (x.at_ - (a + 1)) + 1 by omega, Lm.subAt, if_pos (by omega)]; exact h3
      · obtain ⟨h1, h2, h3⟩ := Lm.walk_subAt t _ _ _ x h
        refine ⟨by omega, by simp only [Lm.sz]; omega, ?_⟩
        rw [show x.at_ - a = (x.at_ - (a + 1)) + 1 by omega, Lm.subAt, if_neg (by omega), show x.at_ - (a + 1) - s.sz = x.at_ - (a + 1 + s.sz) by omega]; exact h3
theorem reds_sub {t : Lm} {k : Nat} (h : k ∈ t.reds) : k < t.sz ∧ ∃ s, t.subAt k = some s ∧ s.isRed = true := by
  unfold Lm.reds at h
  obtain ⟨x, hx, rfl⟩ := List.mem_map.1 h
  obtain ⟨hx1, hx2⟩ := List.mem_filter.1 hx
  obtain ⟨h1, h2, h3⟩ := Lm.walk_subAt t 0 (-1) 0 x hx1
  exact ⟨by omega, x.t, by simpa using h3, hx2⟩
theorem natsI_mem {l : List Nat} {k : Int} (h : k ∈ natsI l) : ∃ n : Nat, k = (n : Int) ∧ n ∈ l := by
  unfold natsI at h
  obtain ⟨n, hn, rfl⟩ := List.mem_map.1 h
  exact ⟨n, rfl, hn⟩
theorem InR.int {w : World} {v : Value} {l : List Int} (h : InR w v intL 1 l) : ∃ o cap, v = .slice o l.length cap ∧ ∀ i x, l[i]? = some x → ∃ g, o = some ⟨g, 0, none⟩ ∧ g < w.heap.size ∧ w.cell? ⟨g, i, none⟩ = some (.int .i64 x) := by
  obtain ⟨o, cap, e, hin⟩ := h
  refine ⟨o, cap, e, fun i x hi => ?_⟩
  have hil := (List.getElem?_eq_some_iff.1 hi).1
  obtain ⟨g, ho, hg, hc⟩ := hin (by intro e; rw [e] at hil; simp at hil)
  refine ⟨g, ho, hg, ?_⟩
  have := hc i 0 (.int .i64 x) hil (by rw [List.getD, hi]; rfl)
  simpa using this
theorem beta_szle (s : Lm) : s.sz ≤ 400 → s.beta.sz ≤ 160000 + s.sz := fun h => by have := (Lm.beta_sz s h).1; omega
/-- Reducing, where the term is not too great. -/
def betaS (s : Lm) : Lm := if s.sz ≤ 400 then s.beta else s
theorem betaS_sz (s : Lm) : (betaS s).sz ≤ 160000 + s.sz := by
  unfold betaS
  split
  · next h => exact beta_szle s h
  · omega
theorem chgAt_betaS : ∀ (t : Lm) (k : Nat), t.sz ≤ 400 → Lm.chgAt betaS t k = Lm.chgAt Lm.beta t k
  | .var n, 0, h => by rw [Lm.chgAt, Lm.chgAt, betaS, if_pos h]
  | .var n, k + 1, h => by rw [Lm.chgAt, Lm.chgAt]
  | .lam t, 0, h => by rw [Lm.chgAt, Lm.chgAt, betaS, if_pos h]
  | .lam t, k + 1, h => by simp only [Lm.sz] at h; rw [Lm.chgAt, Lm.chgAt, chgAt_betaS t k (by omega)]
  | .app s t, 0, h => by rw [Lm.chgAt, Lm.chgAt, betaS, if_pos h]
  | .app s t, k + 1, h => by simp only [Lm.sz] at h; rw [Lm.chgAt, Lm.chgAt, chgAt_betaS s k (by omega), chgAt_betaS t (k - s.sz) (by omega)]
theorem reducedS_any : ChgOk 67 Lm.isRed betaS 400 := fun s b P w hT hp hs hb => by
  have := reduced_any s b P w hT hp hs hb
  rw [show betaS s = s.beta by unfold betaS; rw [if_pos hs]]
  exact this
/-- What changedAt makes of a redex. -/
theorem changedRed_any (t s : Lm) (b k : Nat) (P : Nat → Prop) (w : World) (hT : TrIn w P t b) (hsub : t.subAt k = some s) (hred : s.isRed = true) (hsz : t.sz ≤ 400) (hbd : t.bd) :
    Calls Try.prog 66 #[.pointer (some ⟨b, 0, none⟩), .int .i64 (k : Int), .func (.func 67) #[] #[]] w fun e w' => (∃ b', e = .returned (.pointer (some ⟨b', 0, none⟩)) ∧ TrIn w' (fun x => P x ∨ w.heap.size ≤ x) (Lm.chgAt Lm.beta t k) b') ∧ Below w.heap.size w w' := by
  have := changedAt_all 67 Lm.isRed betaS 400 160000 call_reduced betaS_sz (by omega) (by omega) reducedS_any t.sz t (Nat.le_refl _) s b k P w hT hsub hred hsz hbd
  rw [chgAt_betaS t k hsz] at this
  exact this
theorem chgAt_beta_sz (t : Lm) (k : Nat) (h : t.sz ≤ 400) : (Lm.chgAt Lm.beta t k).sz ≤ 160400 := by
  rw [← chgAt_betaS t k h]
  have := chgAt_szle betaS 160000 betaS_sz t k
  omega
def RdT (l : List Nd) (k : Int) : Option Lm := match readP' l with
  | some t => if k ∈ natsI t.reds then some (Lm.chgAt Lm.beta t k.toNat) else none
  | none => none
theorem RdT_l {l : List Nd} {k : Int} (h : readP' l = none) : RdT l k = none := by unfold RdT; rw [h]
theorem RdT_no {l : List Nd} {k : Int} {t : Lm} (h1 : readP' l = some t) (h : k ∉ natsI t.reds) : RdT l k = none := by unfold RdT; rw [h1]; simp [h]
theorem RdT_ok {l : List Nd} {n : Nat} {t : Lm} (h1 : readP' l = some t) (h : (n : Int) ∈ natsI t.reds) : RdT l (n : Int) = some (Lm.chgAt Lm.beta t n) := by unfold RdT; rw [h1]; simp [h]
theorem reds_len (t : Lm) : (natsI t.reds).length ≤ t.sz := by
  rw [natsI_len]
  unfold Lm.reds
  rw [List.length_map]
  have h2 := List.length_filter_le (fun x : Spot => x.t.isRed) (t.walk 0 (-1) 0)
  rw [Lm.walk_len] at h2
  exact h2
end Go.Proofs.Ytbnagagdboeedaa

/-
  What developed of the program makes.
-/
namespace Go.Proofs.Ytbnagagdboeedaa
open Go.RowKit BL
set_option linter.unusedVariables false

/-- A term out of its developed parts. -/
def devEnd (t o : Lm) : Option Lm := (if t.isRed then o.beta else o).chk
theorem dev_none {t p : Lm} (hp : p ∈ t.kids) (h : p.dev = none) : t.dev = none := by
  cases t with
  | var n => simp [Lm.kids] at hp
  | lam t => simp [Lm.kids] at hp; subst hp; rw [Lm.dev, h]
  | app a b =>
    simp [Lm.kids] at hp
    rcases hp with rfl | rfl
    · rw [Lm.dev, h]
    · rw [Lm.dev, h]; cases a.dev <;> rfl
theorem dev_all {t : Lm} {ks : List Lm} (h : t.kids.map Lm.dev = ks.map some) : ∃ o, nodeOf t.kd t.nm ks = some o ∧ t.dev = devEnd t o ∧ (t.isRed = true → o.isRed = true) ∧ (t.ok = true → o.bd) ∧ o.sz ≤ 301 := by
  cases t with
  | var n =>
    simp [Lm.kids] at h
    subst h
    exact ⟨.var n, by simp [nodeOf, Lm.kd, Lm.nm], by rw [Lm.dev, devEnd]; simp [Lm.isRed], by simp [Lm.isRed], fun hk => Lm.ok_bd hk, by simp [Lm.sz]⟩
  | lam t =>
    match ks, h with
    | [q], h =>
      simp [Lm.kids] at h
      have hg := Lm.dev_good h
      have hs := Lm.good_sz hg
      exact ⟨.lam q, by simp [nodeOf, Lm.kd, Lm.nm], by rw [Lm.dev, h, devEnd]; simp [Lm.isRed], by simp [Lm.isRed], fun _ => Lm.ok_bd (t := q) hs.2.2, by simp only [Lm.sz]; omega⟩
    | [], h => simp [Lm.kids] at h
    | _ :: _ :: _, h => simp [Lm.kids] at h
  | app a b =>
    match ks, h with
    | [p, q], h =>
      simp [Lm.kids] at h
      have hs := Lm.good_sz (Lm.dev_good h.1)
      have hs2 := Lm.good_sz (Lm.dev_good h.2)
      refine ⟨.app p q, by simp [nodeOf, Lm.kd, Lm.nm], by rw [Lm.dev, h.1, devEnd]; simp only; rw [h.2]; rfl, fun hr => ?_, fun _ => ⟨Lm.ok_bd hs.2.2, Lm.ok_bd hs2.2.2⟩, by simp only [Lm.sz]; omega⟩
      exact Lm.dev_lam hr h.1
    | [], h => simp [Lm.kids] at h
    | [_], h => simp [Lm.kids] at h
    | _ :: _ :: _ :: _, h => simp [Lm.kids] at h
theorem devEnd_chk {t o : Lm} : devEnd t o = if (if t.isRed then o.beta else o).good then some (if t.isRed then o.beta else o) else none := rfl
/-- The answer of developed. -/
def DvAns (P : Nat → Prop) (N : Nat) (r : Option Lm) (e : Ending) (w' : World) : Prop := match r with
  | none => ∃ p, e = .returned (.tuple #[.pointer p, .bool false])
  | some s => ∃ b, e = .returned (.tuple #[.pointer (some ⟨b, 0, none⟩), .bool true]) ∧ TrIn w' (fun x => P x ∨ N ≤ x) s b
def DvC (N : Nat) : Prop := ∀ (t : Lm), t.sz ≤ N → ∀ (b : Nat) (P : Nat → Prop) (w : World), TrIn w P t b → t.ok = true →
    Calls Try.prog 63 #[.pointer (some ⟨b, 0, none⟩)] w fun e w' => DvAns P w.heap.size t.dev e w' ∧ Below w.heap.size w w'
theorem ok_kid {t s : Lm} (h : t.ok = true) (hs : s ∈ t.kids) : s.ok = true := by
  cases t with
  | var n => simp [Lm.kids] at hs
  | lam t => simp [Lm.kids] at hs; subst hs; exact h
  | app p q => simp only [Lm.ok, Bool.and_eq_true] at h; simp [Lm.kids] at hs; rcases hs with rfl | rfl; exact h.1; exact h.2
set_option maxHeartbeats 8000000 in
set_option maxRecDepth 100000 in
theorem developed_step (N : Nat) (IH : ∀ n, n < N → DvC n) : DvC N := by
  intro t ht b P w hT hok
  have HIH := hideT' IH
  have HT := hideT' hT
  have HTN := hideT' ht
  have HOK := hideT' hok
  obtain ⟨o, c, hpc, _⟩ := hT.parts
  obtain ⟨u, k0, k1, k2⟩ := hT.own3
  have hbl := hT.lt
  obtain ⟨q, hq⟩ : ∃ q, q = t.kids.length := ⟨_, rfl⟩
  have hq2 : q ≤ 2 := by rw [hq]; cases t <;> simp [Lm.kids]
  rw [← hq] at hpc
  have HQ := hideT' hq
  have hmk := make_ptree q (by omega)
  obtain ⟨kd, hkd⟩ : ∃ kd, kd = t.kd := ⟨_, rfl⟩
  obtain ⟨nm, hnm⟩ : ∃ nm, nm = t.nm := ⟨_, rfl⟩
  rw [← hkd] at k0
  rw [← hnm] at k1
  have HKN := hideT' (And.intro hkd hnm)
  clear IH ht hT hok hq hkd hnm
  have HNEW : Hid (RecAt (w.alloc (.cells ((List.replicate q (none : Option Nat)).flatMap ptrL).toArray 60)) w.heap.size 60 ptrL (List.replicate q none)) := RowAt.new _ _ _
  have HBN : Hid (Below w.heap.size w (w.alloc (.cells ((List.replicate q (none : Option Nat)).flatMap ptrL).toArray 60))) := (Below.refl _ _).alloc (Nat.le_refl _) _
  go_enter Try.func63, Try.ntmps63
  go_wp2_with fail
  clear hmk
  obtain ⟨G, hG⟩ : ∃ G, G = w.heap.size := ⟨_, rfl⟩
  have HG := hideT' hG
  rw [← hG]
  clear hG
  go_loopg [21] q (fun gg i wr => ∃ (As Bs : List Lm) (ks : List (Nat × Lm)), gg = Bs.length ∧ Hid (t.kids = As ++ Bs) ∧ i = .int .i64 (As.length : Int) ∧ Hid (As.map Lm.dev = (ks.map Prod.snd).map some ∧ RecAt wr G 60 ptrL (ks.map (fun p => some p.1) ++ List.replicate (q - As.length) none) ∧ (∀ p ∈ ks, TrIn wr (fun x => (P x ∧ x < w.heap.size) ∨ G < x) p.2 p.1) ∧ Below w.heap.size w wr))
  case atStart => exact ⟨[], t.kids, [], by rw [HQ.out], rfl, rfl, ⟨rfl, by rw [HG.out]; simpa using HNEW.out, by simp, HBN.out⟩⟩
  case round =>
    obtain ⟨As, Bs, ks, hgg, HA, rfl, HS⟩ := hrel
    obtain ⟨j, hj⟩ : ∃ j, j = As.length := ⟨_, rfl⟩
    rw [← hj] at HS ⊢
    have HJ := hideT' hj
    clear hj
    obtain ⟨hks, hR, hTk, hB⟩ := HS.out
    have hkl : ks.length = j := by
      have := congrArg List.length hks
      simp only [List.length_map] at this
      rw [HJ.out, this]
    have hTr : TrIn wr (fun x => P x ∧ x < w.heap.size) t b := TrIn.keep (w := w) hB.size (fun x hx hl => hB.block x hl) (fun x h hl => ⟨h, hl⟩) HT.out
    have hGw : G < wr.heap.size := hR.lt
    cases Bs with
    | nil =>
      have hjm : j = q := by rw [HJ.out, HQ.out, HA.out]; simp
      have hnl : ¬ (j : Int) < (q : Int) := by omega
      have HKids : Hid (KidsAt wr (fun x => (P x ∧ x < w.heap.size) ∨ G ≤ x) (.slice (some ⟨G, 0, none⟩) q q) ks) := by
        refine ⟨_, q, by rw [hkl, hjm], fun hn => ⟨G, rfl, ⟨hR.lt, .inr (Nat.le_refl _)⟩, fun i p hi => ?_⟩, fun p hp => TrIn.mono (fun x hx _ => hx.imp id Nat.le_of_lt) (hTk p hp)⟩
        have hil : i < ks.length := (List.getElem?_eq_some_iff.1 hi).1
        have := hR.cell (c := 1) ptrL_len i 0 (by rw [List.length_append, List.length_map]; omega) (by decide)
        rw [Nat.mul_one, Nat.add_zero] at this
        rw [this]
        have e : (ks.map (fun p : Nat × Lm => some p.1) ++ List.replicate (q - j) none).getD i default = some p.1 := by
          rw [List.getD, List.getElem?_append_left (by rw [List.length_map]; exact hil), List.getElem?_map, hi]
          rfl
        rw [e]; rfl
      have hka : t.kids.map Lm.dev = (ks.map Prod.snd).map some := by rw [HA.out, List.append_nil]; exact hks
      obtain ⟨oo, ho1, ho2, ho3, ho4, ho5⟩ := dev_all hka
      rw [← HKN.out.1, ← HKN.out.2] at ho1
      have HO := hideT' (And.intro ho1 (And.intro ho2 (And.intro ho3 (And.intro (ho4 HOK.out) ho5))))
      have HPS : Hid (∀ p ∈ ptsOf ks, p.2.1 ≤ 1000000 ∧ p.2.2 ≤ 1000000) := by
        intro p hp
        obtain ⟨y, hy, rfl⟩ := List.mem_map.1 hp
        have h1 : some y.2 ∈ (ks.map Prod.snd).map some := List.mem_map_of_mem (List.mem_map_of_mem hy)
        rw [← hka] at h1
        obtain ⟨s, _, hs⟩ := List.mem_map.1 h1
        have h2 := Lm.good_sz (Lm.dev_good hs)
        have h3 := y.2.dp_sz
        simp only; omega
      have e0 : wr.cell? ⟨b, 0, none⟩ = some (.int .i64 kd) := by rw [hB.cell (p := ⟨b, 0, none⟩) hbl]; exact k0
      have e1 : wr.cell? ⟨b, 1, none⟩ = some (.int .i64 nm) := by rw [hB.cell (p := ⟨b, 1, none⟩) hbl]; exact k1
      have e2 : wr.cell? ⟨b, 2, none⟩ = some (.int .i64 u) := by rw [hB.cell (p := ⟨b, 2, none⟩) hbl]; exact k2
      have HBB := hideT' hB
      have HKL := hideT' hkl
      have hbr : b < wr.heap.size := by have := hB.size; omega
      have HTR := hideT' hTr
      clear hks hR hTk hB hTr hkl HS k0 k1 k2 hpc hgg hka ho1 ho2 ho3 ho4 ho5
      go_wp2_with fail
      refine (treeOf_any kd nm u _ (ptsOf ks) wr HKids.out.pts (by unfold ptsOf; rw [List.length_map, HKL.out]; omega) HPS.out).mono ?_
      intro e w2 hN
      obtain ⟨b', rfl, hbb, hTr2, hB2⟩ := treeNew_at HKids.out HO.out.1 hN
      have HT2 : Hid (TrIn w2 (fun x => (P x ∧ x < w.heap.size) ∨ w.heap.size ≤ x) oo b') := TrIn.mono (fun x hx _ => by have := HG.out; have := HBB.out.size; rcases hx with (hx | hx) | hx; exact .inl hx; exact .inr (by omega); exact .inr (by omega)) hTr2
      have HB2 : Hid (Below w.heap.size w w2) := HBB.out.trans (hB2.mono HBB.out.size)
      have HC3 := hideT' (isRedex_any t b _ w2 (TrIn.below hB2 HTR.out))
      obtain ⟨rr, hrr⟩ : ∃ rr, rr = t.isRed := ⟨_, rfl⟩
      rw [← hrr] at HC3
      have HRR := hideT' hrr
      clear hN hTr2 hB2 hrr
      go_wp2_with fail
      refine HC3.out.mono ?_
      rintro e w3 ⟨rfl, hw3⟩
      rw [hw3]
      clear hw3
      cases rr with
      | true =>
        have HC4 := hideT' (reduced_any oo b' _ w2 HT2.out (HO.out.2.2.1 HRR.out.symm) (by have := HO.out.2.2.2.2; omega) HO.out.2.2.2.1)
        have hbz := Lm.beta_sz oo (by have := HO.out.2.2.2.2; omega)
        go_wp2_with fail
        refine HC4.out.mono ?_
        rintro e w4 ⟨⟨b4, rfl, hT4⟩, hB4⟩
        have HT4 : Hid (TrIn w4 (fun x => P x ∨ w.heap.size ≤ x) oo.beta b4) := TrIn.mono (fun x hx _ => by have := HB2.out.size; rcases hx with (hx | hx) | hx; exact .inl hx.1; exact .inr hx; exact .inr (by omega)) hT4
        have HB4 : Hid (Below w.heap.size w w4) := HB2.out.trans (hB4.mono HB2.out.size)
        have HC5 := hideT' (isGood_any oo.beta b4 _ w4 HT4.out (by omega))
        obtain ⟨gd, hgd⟩ : ∃ gd, gd = oo.beta.good := ⟨_, rfl⟩
        rw [← hgd] at HC5
        have HE : Hid (t.dev = if gd then some oo.beta else none) := by unfold Hid; rw [HO.out.2.1, devEnd_chk, ← HRR.out]; simp only [if_true]; rw [← hgd]
        clear hT4 hB4 hbz hgd
        go_wp2_with fail
        refine HC5.out.mono ?_
        rintro e w5 ⟨rfl, hB5⟩
        have HF : Hid (TrIn w5 (fun x => P x ∨ w.heap.size ≤ x) oo.beta b4 ∧ Below w.heap.size w w5) := ⟨TrIn.below hB5 HT4.out, HB4.out.trans (hB5.mono HB4.out.size)⟩
        clear hB5
        go_wp2
        go_ret2
        refine ⟨?_, HF.out.2⟩
        rw [HE.out]
        cases gd with
        | true => exact ⟨b4, rfl, HF.out.1⟩
        | false => exact ⟨_, rfl⟩
      | false =>
        have HC5 := hideT' (isGood_any oo b' _ w2 HT2.out (by have := HO.out.2.2.2.2; omega))
        obtain ⟨gd, hgd⟩ : ∃ gd, gd = oo.good := ⟨_, rfl⟩
        rw [← hgd] at HC5
        have HE : Hid (t.dev = if gd then some oo else none) := by unfold Hid; rw [HO.out.2.1, devEnd_chk, ← HRR.out]; simp only [Bool.false_eq_true, if_false]; rw [← hgd]
        clear hgd
        go_wp2_with fail
        refine HC5.out.mono ?_
        rintro e w5 ⟨rfl, hB5⟩
        have HF : Hid (TrIn w5 (fun x => P x ∨ w.heap.size ≤ x) oo b' ∧ Below w.heap.size w w5) := ⟨TrIn.mono (fun x hx _ => by rcases hx with hx | hx; exact .inl hx.1; exact .inr hx) (TrIn.below hB5 HT2.out), HB2.out.trans (hB5.mono HB2.out.size)⟩
        clear hB5
        go_wp2
        go_ret2
        refine ⟨?_, HF.out.2⟩
        rw [HE.out]
        cases gd with
        | true => exact ⟨b', rfl, HF.out.1⟩
        | false => exact ⟨_, rfl⟩
    | cons T Bs =>
      have hil : (j : Int) < (q : Int) := by rw [HQ.out, HA.out, List.length_append, ← HJ.out]; simp; omega
      have hkj : t.kids[j]? = some T := by rw [HA.out, HJ.out]; simp
      have hTm : T ∈ t.kids := List.mem_of_getElem? hkj
      obtain ⟨o', c', hpc', hkid⟩ := hTr.parts
      have hoo : o' = o := by
        have h1 : wr.cell? ⟨b, 3, none⟩ = w.cell? ⟨b, 3, none⟩ := hB.cell (p := ⟨b, 3, none⟩) hbl
        rw [hpc', hpc] at h1
        injection h1 with h1
        injection h1 with h1
      subst hoo
      obtain ⟨g, b1, ho', hg, _, hcb1, hT1⟩ := hkid j T hkj
      subst ho'
      have hTs := Lm.kids_lt hTm
      have HCALL := hideT' (HIH.out T.sz (by have := HTN.out; omega) T (Nat.le_refl _) b1 _ wr hT1 (ok_kid HOK.out hTm))
      have HSS := hideT' (And.intro hks (And.intro hTk (And.intro hB (And.intro hkl hTm))))
      have HR := hideT' hR
      clear hks hTk hB hTr hpc' hkid hT1 hkj hTm hR HS hkl
      go_wp2_with fail
      refine HCALL.out.mono ?_
      rintro e w5 ⟨hans, hB5⟩
      obtain ⟨hks, hTk, hB, hkl, hTm⟩ := HSS.out
      cases hdv : T.dev with
      | none =>
        rw [hdv] at hans
        obtain ⟨p5, rfl⟩ := hans
        have HE : Hid (t.dev = none) := dev_none hTm hdv
        have HF : Hid (Below w.heap.size w w5) := hB.trans (hB5.mono hB.size)
        clear hdv hks hTk hB hkl hTm hB5
        go_wp2
        go_ret2
        exact ⟨by rw [HE.out]; exact ⟨_, rfl⟩, HF.out⟩
      | some D =>
        rw [hdv] at hans
        obtain ⟨b', rfl, hT5⟩ := hans
        have hR5 : RecAt w5 G 60 ptrL (ks.map (fun p => some p.1) ++ List.replicate (q - j) none) := HR.out.below hB5 hGw
        have HT5 := hideT' hT5
        have HB5 := hideT' hB5
        have HDV := hideT' hdv
        have HSL : Hid (j < (ks.map (fun p : Nat × Lm => some p.1) ++ List.replicate (q - j) none).length) := by unfold Hid; rw [List.length_append, List.length_map, List.length_replicate, hkl]; omega
        clear hT5 hB5 hks hTk hB hkl hTm hdv
        go_wp2_with (refine store_rec1 rfl 60 _ _ rfl rfl (fun b : Option Nat => .pointer (b.map fun b => ⟨b, 0, none⟩)) (fun _ => rfl) one_ptree G j (some b') rfl rfl _ hR5 HSL.out ?_; intro w6 hR6 hg6 hs6; have HG6 := hideT' hg6; have HR6 := hideT' hR6; clear hg6 hR6)
        obtain ⟨hks, hTk, hB, hkl, hTm⟩ := HSS.out
        have HEND : Hid ((As ++ [T]).map Lm.dev = ((ks ++ [(b', D)]).map Prod.snd).map some ∧ RecAt w6 G 60 ptrL ((ks ++ [(b', D)]).map (fun p => some p.1) ++ List.replicate (q - (As ++ [T]).length) none) ∧ (∀ p ∈ ks ++ [(b', D)], TrIn w6 (fun x => (P x ∧ x < w.heap.size) ∨ G < x) p.2 p.1) ∧ Below w.heap.size w w6) := by
          have hGw0 : ¬ ((P G ∧ G < w.heap.size) ∨ G < G) := by have := HG.out; omega
          refine ⟨by rw [List.map_append, hks]; simp [HDV.out], ?_, fun p hp => ?_, ?_⟩
          · have e1 : (ks.map (fun p : Nat × Lm => some p.1) ++ List.replicate (q - j) none).set j (some b') = (ks ++ [(b', D)]).map (fun p : Nat × Lm => some p.1) ++ List.replicate (q - (As ++ [T]).length) none := by
              rw [List.set_append_right _ _ (by rw [List.length_map, hkl]; exact Nat.le_refl _), List.length_map, hkl, Nat.sub_self, List.length_append, ← HJ.out, List.length_singleton]
              obtain ⟨y, hy⟩ : ∃ y, q - j = y + 1 := ⟨q - j - 1, by omega⟩
              rw [hy, show q - (j + 1) = y by omega, List.replicate_succ, List.set_cons_zero, List.map_append]
              simp
            have h3 := HR6.out
            rw [e1] at h3
            exact h3
          · rcases List.mem_append.1 hp with hp | hp
            · exact TrIn.grown HG6.out hGw0 (TrIn.below HB5.out (hTk p hp))
            · rw [List.mem_singleton] at hp
              subst hp
              exact TrIn.grown HG6.out hGw0 (TrIn.mono (fun x hx _ => hx.imp id (fun h => Nat.lt_of_lt_of_le hGw h)) HT5.out)
          · exact (hB.trans (HB5.out.mono hB.size)).grown HG6.out (by have := hB.size; have := HB5.out.size; omega) (by intro k hk; cases hk; rw [HG.out]; exact Nat.le_refl _)
        have HA2 : Hid (t.kids = (As ++ [T]) ++ Bs) := by unfold Hid; rw [HA.out]; simp
        clear hks hTk hB hkl hTm
        go_roundg Bs.length
        case measure => first | omega | (rw [hgg]; simp)
        case rel => exact ⟨As ++ [T], Bs, ks ++ [(b', D)], rfl, HA2, by rw [List.length_append, ← HJ.out]; go_num, HEND⟩
theorem developed_all : ∀ N, DvC N := by
  intro N
  induction N using Nat.strongRecOn with
  | _ N IH => exact developed_step N IH
end Go.Proofs.Ytbnagagdboeedaa

/-
  What lcRedex, lcFine and lcDevelop of the model answer.
-/
namespace Go.Proofs.Ytbnagagdboeedaa
open Go.RowKit BL
set_option linter.unusedVariables false

set_option maxHeartbeats 1000000 in
theorem lcFine_any (t : Lm) (z : Value) (P : Nat → Prop) (w : World) (hz : LcIn w P t z) : Calls Try.prog 87 #[.agg (lcC t.kd t.nm z)] w fun e w' => e = .returned (.bool t.good) ∧ Below w.heap.size w w' := by
  obtain ⟨oz, cz, rfl⟩ := hz.form
  obtain ⟨W, hWd⟩ : ∃ W, W = w.alloc (.cells #[.int .i64 t.kd, .int .i64 t.nm, .slice oz t.kids.length cz] 54) := ⟨_, rfl⟩
  have hB : Below w.heap.size w W := by rw [hWd]; exact (Below.refl _ _).alloc (Nat.le_refl _) _
  have HC := hideT' (lcTold_any t (.slice oz t.kids.length cz) P W (LcIn.below hB hz))
  have HB := hideT' hB
  unfold lcC at HC ⊢
  clear hz hB
  go_enter Try.func87, Try.ntmps87
  go_wp2_with fail
  rw [← hWd]
  refine HC.out.mono ?_
  rintro e w2 ⟨hT2, hB2⟩
  obtain ⟨u, rfl, _⟩ := hT2
  have HB2 : Hid (Below w.heap.size w w2) := HB.out.trans (hB2.mono HB.out.size)
  obtain ⟨q, hq⟩ : ∃ q, q = t.good := ⟨_, rfl⟩
  rw [← hq]
  have HQ := hideT' hq
  clear hB2 hq hWd
  go_wp2
  go_ret
  exact ⟨by rw [← HQ.out]; rfl, HB2.out⟩
set_option maxHeartbeats 1000000 in
theorem lcRedex_any (t : Lm) (z : Value) (P : Nat → Prop) (w : World) (hz : LcIn w P t z) : Calls Try.prog 99 #[.agg (lcC t.kd t.nm z)] w fun e w' => e = .returned (.bool t.isRed) ∧ Below w.heap.size w w' := by
  have hz0 := zero_lcT.1
  cases t with
  | var n =>
    obtain ⟨o, c, rfl⟩ := hz
    show Calls Try.prog 99 #[.agg #[.int .i64 1, .int .i64 n, .slice o 0 c]] w _
    go_enter Try.func99, Try.ntmps99
    go_wp2
    go_ret
    exact ⟨rfl, (Below.refl _ _).alloc (Nat.le_refl _) _⟩
  | lam s =>
    obtain ⟨oz, cz, rfl⟩ := hz.form
    clear hz
    show Calls Try.prog 99 #[.agg #[.int .i64 2, .int .i64 0, .slice oz 1 cz]] w _
    go_enter Try.func99, Try.ntmps99
    go_wp2
    go_ret
    exact ⟨rfl, (Below.refl _ _).alloc (Nat.le_refl _) _⟩
  | app s a =>
    obtain ⟨g, c, z1, z2, rfl, hg, ⟨c0, c1, c2⟩, _, _, _⟩ := hz
    have hgl := hg.1
    have hr : (Lm.app s a).isRed = (s.kd == 2) := by cases s <;> simp [Lm.isRed, Lm.isLam, Lm.kd]
    rw [hr]
    obtain ⟨k, hk⟩ : ∃ k, k = s.kd := ⟨_, rfl⟩
    rw [← hk] at c0 ⊢
    clear hk hr hg
    show Calls Try.prog 99 #[.agg #[.int .i64 3, .int .i64 0, .slice (some ⟨g, 0, none⟩) 2 c]] w _
    go_enter Try.func99, Try.ntmps99
    go_wp2
    go_ret
    exact ⟨rfl, (Below.refl _ _).alloc (Nat.le_refl _) _⟩
def LdvAns (P : Nat → Prop) (N : Nat) (r : Option Lm) (e : Ending) (w' : World) : Prop := match r with
  | none => ∃ k n o m c, e = .returned (.tuple #[.agg (lcC k n (.slice o m c)), .bool false])
  | some s => ∃ z, e = .returned (.tuple #[.agg (lcC s.kd s.nm z), .bool true]) ∧ LcIn w' (fun x => P x ∨ N ≤ x) s z
def LdvC (N : Nat) : Prop := ∀ (t : Lm), t.sz ≤ N → ∀ (z : Value) (P : Nat → Prop) (w : World), LcIn w P t z → t.ok = true →
    Calls Try.prog 62 #[.agg (lcC t.kd t.nm z)] w fun e w' => LdvAns P w.heap.size t.dev e w' ∧ Below w.heap.size w w'
set_option maxHeartbeats 8000000 in
set_option maxRecDepth 100000 in
theorem lcDevelop_step (N : Nat) (IH : ∀ n, n < N → LdvC n) : LdvC N := by
  intro t ht z P w hz hok
  have hz0 := zero_lcT.1
  obtain ⟨oz, cz, hzz⟩ := hz.form
  subst hzz
  have HZ := hideT' hz
  have HIH := hideT' IH
  have HTN := hideT' ht
  have HOK := hideT' hok
  obtain ⟨kd, hkd⟩ : ∃ kd, kd = t.kd := ⟨_, rfl⟩
  obtain ⟨nm, hnm⟩ : ∃ nm, nm = t.nm := ⟨_, rfl⟩
  obtain ⟨q, hq⟩ : ∃ q, q = t.kids.length := ⟨_, rfl⟩
  have hq2 : q ≤ 2 := by rw [hq]; cases t <;> simp [Lm.kids]
  rw [← hq] at HZ
  rw [← hkd, ← hnm, ← hq]
  have HKD := hideT' hkd
  have HNM := hideT' hnm
  have HQ := hideT' hq
  have HSZ : Hid (∀ s ∈ t.kids, s.sz < t.sz) := fun s hs => Lm.kids_lt hs
  obtain ⟨W, hWd⟩ : ∃ W, W = (w.alloc (.cells #[.int .i64 kd, .int .i64 nm, .slice oz q cz] 54)).alloc (.cells #[.int .i64 0, .int .i64 0, .slice none 0 0] 54) := ⟨_, rfl⟩
  have hBW : Below w.heap.size w W := by rw [hWd]; exact ((Below.refl _ _).alloc (Nat.le_refl _) _).alloc (by simp) _
  have hWs : w.heap.size + 2 = W.heap.size := by rw [hWd]; simp
  have hR0 : RowAt W w.heap.size 54 #[.int .i64 kd, .int .i64 nm, .slice oz q cz] := by rw [hWd]; exact RowAt.old (RowAt.new _ _ _) _
  have hR1 : RowAt W (w.heap.size + 1) 54 #[.int .i64 0, .int .i64 0, .slice none 0 0] := by
    rw [hWd]
    have := RowAt.new (w.alloc (.cells #[.int .i64 kd, .int .i64 nm, .slice oz q cz] 54)) 54 #[.int .i64 0, .int .i64 0, .slice none 0 0]
    rwa [World.size_alloc] at this
  obtain ⟨W3, hW3⟩ : ∃ W3, W3 = W.alloc (.cells #[.int .i64 kd, .int .i64 nm, .slice none 0 0] 54) := ⟨_, rfl⟩
  have hB3 : Below w.heap.size w W3 := by rw [hW3]; exact hBW.alloc (by omega) _
  have hs3 : W3.heap.size = w.heap.size + 3 := by rw [hW3, World.size_alloc]; omega
  have hRo : RowAt W3 (w.heap.size + 2) 54 (lcC kd nm (.slice none 0 0)) := by rw [hW3, hWs]; exact RowAt.new W _ _
  have HRR : Hid (RowAt W3 w.heap.size 54 #[.int .i64 kd, .int .i64 nm, .slice oz q cz] ∧ RowAt W3 (w.heap.size + 1) 54 #[.int .i64 0, .int .i64 0, .slice none 0 0]) := by rw [hW3]; exact ⟨RowAt.old hR0 _, RowAt.old hR1 _⟩
  have HOS := hideT' (OutZ.start (P := fun x => P x ∧ x < w.heap.size) hRo)
  have HB3 := hideT' hB3
  have HS3 := hideT' hs3
  unfold lcC
  obtain ⟨i0, hi, hzz0, hzz1, hzz2⟩ := info_parts info_lcT
  clear IH ht hz hok hkd hnm hq hR0 hR1 hBW hWs hB3 hs3 hRo
  go_enter Try.func62, Try.ntmps62
  go_wp2_with fail
  rw [← hWd, ← hW3]
  go_loopg [17] q (fun gg i wr => ∃ (As Bs ds : List Lm) (z : Value) (ys : List Value), gg = Bs.length ∧ Hid (t.kids = As ++ Bs ∧ As.map Lm.dev = ds.map some) ∧ i = .int .i64 (As.length : Int) ∧ Hid (OutZ W3 wr (w.heap.size + 2) kd nm (fun x => P x ∧ x < w.heap.size) ds z ys) ∧ Hid (Below w.heap.size w wr))
  case atStart => exact ⟨[], t.kids, [], .slice none 0 0, [], by rw [HQ.out], ⟨rfl, rfl⟩, rfl, HOS, HB3⟩
  case round =>
    obtain ⟨As, Bs, ds, z, ys, hgg, HA, rfl, HO, HB⟩ := hrel
    obtain ⟨j, hj⟩ : ∃ j, j = As.length := ⟨_, rfl⟩
    obtain ⟨ox, cx, hzx⟩ := own_formT HO.out.own
    have hdl : As.length = ds.length := by have := congrArg List.length HA.out.2; simpa using this
    have HDL := hideT' hdl
    rw [← hdl, ← hj] at hzx
    clear hdl
    subst hzx
    rw [← hj]
    have HJ := hideT' hj
    clear hj
    have hRt : RowAt wr w.heap.size 54 #[.int .i64 kd, .int .i64 nm, .slice oz q cz] := HO.out.rowOf (by omega) HRR.out.1
    have hRz : RowAt wr (w.heap.size + 1) 54 #[.int .i64 0, .int .i64 0, .slice none 0 0] := HO.out.rowOf (by omega) HRR.out.2
    have hRo : RowAt wr (w.heap.size + 2) 54 (lcC kd nm (.slice ox j cx)) := HO.out.row
    have hws : w.heap.size + 2 < wr.heap.size := hRo.lt
    cases Bs with
    | nil =>
      have hjm : j = q := by rw [HJ.out, HQ.out, HA.out.1]; simp
      have hnl : ¬ (j : Int) < (q : Int) := by omega
      have hka : t.kids.map Lm.dev = ds.map some := by rw [HA.out.1, List.append_nil]; exact HA.out.2
      obtain ⟨oo, ho1, ho2, ho3, ho4, ho5⟩ := dev_all hka
      obtain ⟨hn1, hn2, hn3⟩ := nodeOf_kids ho1
      have HOO := hideT' (And.intro ho2 (And.intro ho3 (And.intro (ho4 HOK.out) (And.intro ho5 (And.intro (hn2.trans HKD.out.symm) (hn3.trans HNM.out.symm))))))
      have hzo : LcIn wr (fun x => (P x ∧ x < w.heap.size) ∨ W3.heap.size ≤ x) oo (.slice ox j cx) := by
        have ho := HO.out
        rw [← hn1] at ho
        exact LcIn.mono (fun x hx _ => hx.imp (fun h => h.1) id) ho.done
      have HZO := hideT' hzo
      have hol : oo.kids.length = j := by rw [hn1, ← HDL.out, HJ.out]
      have HOL := hideT' hol
      have HCR := hideT' (lcRedex_any t (.slice oz q cz) (fun b => P b ∧ b < w.heap.size) wr (LcIn.keep (w := w) HB.out.size (fun x hx hl => HB.out.block x hl) (fun x hx hl => ⟨hx, hl⟩) HZ.out))
      obtain ⟨rr, hrr⟩ : ∃ rr, rr = t.isRed := ⟨_, rfl⟩
      rw [← hrr, ← HKD.out, ← HNM.out] at HCR
      have HRR2 := hideT' hrr
      unfold lcC at HCR
      have HRW := hideT' (And.intro hRt (And.intro hRz hRo))
      clear hgg hjm hka ho1 ho2 ho3 ho4 ho5 hn1 hn2 hn3 hzo hol hrr hRt hRz hRo
      go_wp2_with (refine wpList_load_row rfl 54 _ rfl w.heap.size rfl 54 #[.int .i64 kd, .int .i64 nm, .slice oz q cz] (0, 0) _ HRW.out.1 Try.underlying54 rfl zero_lcT.2 ?_)
      refine HCR.out.mono ?_
      rintro e wv ⟨rfl, hBv⟩
      have hsv := hBv.size
      have HRv := hideT' (And.intro (HRW.out.2.1.below hBv HRW.out.2.1.lt) (HRW.out.2.2.below hBv HRW.out.2.2.lt))
      have HBv : Hid (Below w.heap.size w wv) := HB.out.trans (hBv.mono HB.out.size)
      have HZv : Hid (LcIn wv (fun x => (P x ∧ x < w.heap.size) ∨ W3.heap.size ≤ x) oo (.slice ox j cx)) := LcIn.below hBv HZO.out
      clear hBv
      cases rr with
      | true =>
        have HCB := hideT' (lcBeta_any oo (.slice ox j cx) _ wv HZv.out (HOO.out.2.1 HRR2.out.symm) (by have := HOO.out.2.2.2.1; omega) HOO.out.2.2.1)
        rw [HOO.out.2.2.2.2.1, HOO.out.2.2.2.2.2] at HCB
        obtain ⟨X, hX⟩ : ∃ X, X = oo.beta := ⟨_, rfl⟩
        rw [← hX] at HCB
        obtain ⟨gd, hgd⟩ : ∃ gd, gd = X.good := ⟨_, rfl⟩
        have HE : Hid (t.dev = if gd then some X else none) := by unfold Hid; rw [HOO.out.1, devEnd_chk, ← HRR2.out]; simp only [if_true]; rw [← hX, ← hgd]
        have HGD := hideT' hgd
        unfold lcC at HCB
        clear hX hgd
        go_wp2_with (refine wpList_load_row rfl 54 _ rfl (w.heap.size + 2) rfl 54 #[.int .i64 kd, .int .i64 nm, .slice ox j cx] (0, 0) _ HRv.out.2 Try.underlying54 rfl zero_lcT.2 ?_)
        refine HCB.out.mono ?_
        rintro e wb ⟨⟨zb, rfl, hzb⟩, hBb⟩
        obtain ⟨oy, cy, hzzb⟩ := hzb.form
        subst hzzb
        have hsb := hBb.size
        obtain ⟨kx, hkx⟩ : ∃ kx, kx = X.kd := ⟨_, rfl⟩
        obtain ⟨nx, hnx⟩ : ∃ nx, nx = X.nm := ⟨_, rfl⟩
        obtain ⟨lx, hlx⟩ : ∃ lx, lx = X.kids.length := ⟨_, rfl⟩
        rw [← hlx] at hzb
        rw [← hkx, ← hnx, ← hlx]
        have HX : Hid (X.kd = kx ∧ X.nm = nx ∧ X.kids.length = lx) := ⟨hkx.symm, hnx.symm, hlx.symm⟩
        have HRb := hideT' (And.intro (HRv.out.1.below hBb HRv.out.1.lt) (HRv.out.2.below hBb HRv.out.2.lt))
        have HZb := hideT' hzb
        have HBb : Hid (Below w.heap.size w wb) := HBv.out.trans (hBb.mono HBv.out.size)
        clear hzb hBb hkx hnx hlx
        go_wp2_with (refine store_3 rfl 54 _ _ rfl rfl zero_lcT.2 (w.heap.size + 2) (lcC kx nx (.slice oy lx cy)) rfl (lcC_one _ _ _ rfl) rfl rfl _ rfl HRb.out.2 ?_; intro wy hRy hgy hsy; refine Hid.out ?_)
        unfold Hid
        have hs3 := HS3.out
        have HRY := hideT' hRy
        have HRZY : Hid (RowAt wy (w.heap.size + 1) 54 #[.int .i64 0, .int .i64 0, .slice none 0 0]) := HRb.out.1.grown hgy (by intro e; injection e; omega)
        have HZY : Hid (LcIn wy (fun x => (P x ∧ x < w.heap.size) ∨ W3.heap.size ≤ x) X (.slice oy lx cy)) := LcIn.keep (w := wb) (by omega) (fun x hx hl => hgy.block x hl (by intro e; injection e with e; have := HB.out.size; rcases hx with (hx | hx) | hx <;> omega)) (fun x hx _ => by rcases hx with (hx | hx) | hx; exact .inl hx; exact .inr hx; exact .inr (by have := HO.out.size; omega)) HZb.out
        have HBY : Hid (Below w.heap.size w wy) := HBb.out.grown hgy (by have := HBb.out.size; omega) (by intro k hk; cases hk; omega)
        have HFI : Hid (∀ w', Below wy.heap.size wy w' → Calls Try.prog 87 #[.agg (lcC kx nx (.slice oy lx cy))] w' fun e w'' => e = .returned (.bool gd) ∧ Below w'.heap.size w' w'') := fun w' hw' => by
          have := lcFine_any X (.slice oy lx cy) _ w' (LcIn.below hw' HZY.out)
          rw [HX.out.1, HX.out.2.1, ← HGD.out] at this
          exact this
        have hwy : w.heap.size + 2 < wy.heap.size := hRy.lt
        clear hRy hgy hsy hs3
        go_wp2_with fail
        refine held_begin (fun w' => RowAt w' (w.heap.size + 2) 54 (lcC kx nx (.slice oy lx cy))) (by kernel_rfl) ?_
        have hS : RowAt wy.drew (w.heap.size + 2) 54 (lcC kx nx (.slice oy lx cy)) := HRY.out
        refine held_valS 0 (some 40) rfl rfl (by kernel_rfl) (by kernel_rfl) (by kernel_rfl) noPanic_put rfl (.agg (lcC kx nx (.slice oy lx cy))) (fun w' h => by unfold lcC; have q0 : w'.cell? ⟨w.heap.size + 2, 0, none⟩ = some (.int .i64 kx) := (by rw [cell_of_row w' _ _ _ _ _ h]; rfl); have q1 : w'.cell? ⟨w.heap.size + 2, 1, none⟩ = some (.int .i64 nx) := (by rw [cell_of_row w' _ _ _ _ _ h]; rfl); have q2 : w'.cell? ⟨w.heap.size + 2, 2, none⟩ = some (.slice oy lx cy) := (by rw [cell_of_row w' _ _ _ _ _ h]; rfl); go_simp) hS ?_
        simp only [Act.put, List.setIfInBounds_toArray, List.set_cons_zero, List.set_cons_succ]
        refine held_valS 1 (some 41) rfl rfl (by kernel_rfl) (by kernel_rfl) (by kernel_rfl) noPanic_put rfl (.agg (lcC kx nx (.slice oy lx cy))) (fun w' h => by unfold lcC; have q0 : w'.cell? ⟨w.heap.size + 2, 0, none⟩ = some (.int .i64 kx) := (by rw [cell_of_row w' _ _ _ _ _ h]; rfl); have q1 : w'.cell? ⟨w.heap.size + 2, 1, none⟩ = some (.int .i64 nx) := (by rw [cell_of_row w' _ _ _ _ _ h]; rfl); have q2 : w'.cell? ⟨w.heap.size + 2, 2, none⟩ = some (.slice oy lx cy) := (by rw [cell_of_row w' _ _ _ _ _ h]; rfl); go_simp) hS ?_
        simp only [Act.put, List.setIfInBounds_toArray, List.set_cons_zero, List.set_cons_succ]
        refine held_call 2 (some 42) (by kernel_rfl) rfl rfl rfl 87 #[.agg (lcC kx nx (.slice oy lx cy))] (by go_simp) _ (HFI.out wy.drew (Below.refl _ _).drew) ?_
        rintro e wz ⟨rfl, hwz⟩
        have hwz : Below wy.heap.size wy wz := ⟨hwz.os, hwz.tape, hwz.output, hwz.size, hwz.block⟩
        have hsz := hwz.size
        have hS5 : RowAt wz (w.heap.size + 2) 54 (lcC kx nx (.slice oy lx cy)) := HRY.out.below hwz HRY.out.lt
        refine ⟨_, rfl, hS5, ?_⟩
        simp only [Act.put, List.setIfInBounds_toArray, List.set_cons_zero, List.set_cons_succ]
        have hRz9 : RowAt wz (w.heap.size + 1) 54 #[.int .i64 0, .int .i64 0, .slice none 0 0] := HRZY.out.below hwz HRZY.out.lt
        refine held_one 3 (by kernel_rfl) rfl rfl ?_
        intro K hK
        refine store_3_wp 54 (.tmp 2) (.tmp 40) rfl rfl zero_lcT.2 (w.heap.size + 1) (lcC kx nx (.slice oy lx cy)) rfl (lcC_one _ _ _ rfl) rfl rfl #[.int .i64 0, .int .i64 0, .slice none 0 0] rfl hRz9 ?_
        intro wu hRu hgu hsu
        have hSu : RowAt wu (w.heap.size + 2) 54 (lcC kx nx (.slice oy lx cy)) := hS5.grown hgu (by intro e; injection e; omega)
        refine hK.out _ _ hSu ?_
        refine held_assign 4 (some 3) (by kernel_rfl) rfl rfl _ rfl rfl (.bool gd) rfl hSu ?_
        simp only [Act.put, List.setIfInBounds_toArray, List.set_cons_zero, List.set_cons_succ]
        refine wpAnyH_done (by kernel_rfl) ?_ _
        refine NoPanic.normal ?_
        have HF : Hid (LcIn wu (fun x => P x ∨ w.heap.size ≤ x) X (.slice oy lx cy) ∧ RowAt wu (w.heap.size + 1) 54 (lcC kx nx (.slice oy lx cy)) ∧ Below w.heap.size w wu) := by
          have hs3 := HS3.out
          refine ⟨LcIn.keep (w := wz) (by omega) (fun x hx hl => hgu.block x hl (by intro e; injection e with e; rcases hx with hx | hx <;> omega)) (fun x hx _ => by rcases hx with hx | hx; exact .inl hx.1; exact .inr (by omega)) (LcIn.below hwz HZY.out), hRu, (HBY.out.trans (hwz.mono HBY.out.size)).grown hgu (by have := HBY.out.size; omega) (by intro k hk; cases hk; omega)⟩
        clear hK hS hS5 hSu hRz9 hRu hgu hsu hwz
        go_wp2
        refine bodyPost_ret (v := .tuple #[.agg (lcC kx nx (.slice oy lx cy)), .bool gd]) (res_lc_tmp Try.results62 _ _ (w.heap.size + 1) kx nx (.slice oy lx cy) (.bool gd) rfl rfl HF.out.2.1) rfl ⟨?_, HF.out.2.2⟩
        rw [HE.out]
        cases gd with
        | true => exact ⟨.slice oy lx cy, by rw [HX.out.1, HX.out.2.1], HF.out.1⟩
        | false => exact ⟨_, _, _, _, _, rfl⟩
      | false =>
        obtain ⟨X, hX⟩ : ∃ X, X = oo := ⟨_, rfl⟩
        obtain ⟨gd, hgd⟩ : ∃ gd, gd = X.good := ⟨_, rfl⟩
        have HE : Hid (t.dev = if gd then some X else none) := by unfold Hid; rw [HOO.out.1, devEnd_chk, ← HRR2.out]; simp only [Bool.false_eq_true, if_false]; rw [← hX, ← hgd]
        have HGD := hideT' hgd
        rw [← hX] at HZv HOO HOL
        obtain ⟨kx, hkx⟩ : ∃ kx, kx = kd := ⟨_, rfl⟩
        obtain ⟨nx, hnx⟩ : ∃ nx, nx = nm := ⟨_, rfl⟩
        obtain ⟨lx, hlx⟩ : ∃ lx, lx = j := ⟨_, rfl⟩
        obtain ⟨oy, hoy⟩ : ∃ oy, oy = ox := ⟨_, rfl⟩
        obtain ⟨cy, hcy⟩ : ∃ cy, cy = cx := ⟨_, rfl⟩
        obtain ⟨wy, hwye⟩ : ∃ wy, wy = wv := ⟨_, rfl⟩
        have HX : Hid (X.kd = kx ∧ X.nm = nx ∧ X.kids.length = lx) := ⟨by rw [hkx]; exact HOO.out.2.2.2.2.1, by rw [hnx]; exact HOO.out.2.2.2.2.2, by rw [hlx]; exact HOL.out⟩
        have HRY : Hid (RowAt wy (w.heap.size + 2) 54 (lcC kx nx (.slice oy lx cy))) := by unfold Hid; rw [hwye, hkx, hnx, hlx, hoy, hcy]; exact HRv.out.2
        have HRZY : Hid (RowAt wy (w.heap.size + 1) 54 #[.int .i64 0, .int .i64 0, .slice none 0 0]) := by unfold Hid; rw [hwye]; exact HRv.out.1
        have HZY : Hid (LcIn wy (fun x => (P x ∧ x < w.heap.size) ∨ W3.heap.size ≤ x) X (.slice oy lx cy)) := by unfold Hid; rw [hwye, hlx, hoy, hcy]; exact HZv.out
        have HBY : Hid (Below w.heap.size w wy) := by unfold Hid; rw [hwye]; exact HBv.out
        have hs3 := HS3.out
        have HFI : Hid (∀ w', Below wy.heap.size wy w' → Calls Try.prog 87 #[.agg (lcC kx nx (.slice oy lx cy))] w' fun e w'' => e = .returned (.bool gd) ∧ Below w'.heap.size w' w'') := fun w' hw' => by
          have := lcFine_any X (.slice oy lx cy) _ w' (LcIn.below hw' HZY.out)
          rw [HX.out.1, HX.out.2.1, ← HGD.out] at this
          exact this
        have hwy : w.heap.size + 2 < wy.heap.size := HRY.out.lt
        rw [← hwye]
        clear hX hgd hkx hnx hlx hoy hcy hwye hs3
        go_wp2_with fail
        refine held_begin (fun w' => RowAt w' (w.heap.size + 2) 54 (lcC kx nx (.slice oy lx cy))) (by kernel_rfl) ?_
        have hS : RowAt wy.drew (w.heap.size + 2) 54 (lcC kx nx (.slice oy lx cy)) := HRY.out
        refine held_valS 0 (some 40) rfl rfl (by kernel_rfl) (by kernel_rfl) (by kernel_rfl) noPanic_put rfl (.agg (lcC kx nx (.slice oy lx cy))) (fun w' h => by unfold lcC; have q0 : w'.cell? ⟨w.heap.size + 2, 0, none⟩ = some (.int .i64 kx) := (by rw [cell_of_row w' _ _ _ _ _ h]; rfl); have q1 : w'.cell? ⟨w.heap.size + 2, 1, none⟩ = some (.int .i64 nx) := (by rw [cell_of_row w' _ _ _ _ _ h]; rfl); have q2 : w'.cell? ⟨w.heap.size + 2, 2, none⟩ = some (.slice oy lx cy) := (by rw [cell_of_row w' _ _ _ _ _ h]; rfl); go_simp) hS ?_
        simp only [Act.put, List.setIfInBounds_toArray, List.set_cons_zero, List.set_cons_succ]
        refine held_valS 1 (some 41) rfl rfl (by kernel_rfl) (by kernel_rfl) (by kernel_rfl) noPanic_put rfl (.agg (lcC kx nx (.slice oy lx cy))) (fun w' h => by unfold lcC; have q0 : w'.cell? ⟨w.heap.size + 2, 0, none⟩ = some (.int .i64 kx) := (by rw [cell_of_row w' _ _ _ _ _ h]; rfl); have q1 : w'.cell? ⟨w.heap.size + 2, 1, none⟩ = some (.int .i64 nx) := (by rw [cell_of_row w' _ _ _ _ _ h]; rfl); have q2 : w'.cell? ⟨w.heap.size + 2, 2, none⟩ = some (.slice oy lx cy) := (by rw [cell_of_row w' _ _ _ _ _ h]; rfl); go_simp) hS ?_
        simp only [Act.put, List.setIfInBounds_toArray, List.set_cons_zero, List.set_cons_succ]
        refine held_call 2 (some 42) (by kernel_rfl) rfl rfl rfl 87 #[.agg (lcC kx nx (.slice oy lx cy))] (by go_simp) _ (HFI.out wy.drew (Below.refl _ _).drew) ?_
        rintro e wz ⟨rfl, hwz⟩
        have hwz : Below wy.heap.size wy wz := ⟨hwz.os, hwz.tape, hwz.output, hwz.size, hwz.block⟩
        have hsz := hwz.size
        have hS5 : RowAt wz (w.heap.size + 2) 54 (lcC kx nx (.slice oy lx cy)) := HRY.out.below hwz HRY.out.lt
        refine ⟨_, rfl, hS5, ?_⟩
        simp only [Act.put, List.setIfInBounds_toArray, List.set_cons_zero, List.set_cons_succ]
        have hRz9 : RowAt wz (w.heap.size + 1) 54 #[.int .i64 0, .int .i64 0, .slice none 0 0] := HRZY.out.below hwz HRZY.out.lt
        refine held_one 3 (by kernel_rfl) rfl rfl ?_
        intro K hK
        refine store_3_wp 54 (.tmp 2) (.tmp 40) rfl rfl zero_lcT.2 (w.heap.size + 1) (lcC kx nx (.slice oy lx cy)) rfl (lcC_one _ _ _ rfl) rfl rfl #[.int .i64 0, .int .i64 0, .slice none 0 0] rfl hRz9 ?_
        intro wu hRu hgu hsu
        have hSu : RowAt wu (w.heap.size + 2) 54 (lcC kx nx (.slice oy lx cy)) := hS5.grown hgu (by intro e; injection e; omega)
        refine hK.out _ _ hSu ?_
        refine held_assign 4 (some 3) (by kernel_rfl) rfl rfl _ rfl rfl (.bool gd) rfl hSu ?_
        simp only [Act.put, List.setIfInBounds_toArray, List.set_cons_zero, List.set_cons_succ]
        refine wpAnyH_done (by kernel_rfl) ?_ _
        refine NoPanic.normal ?_
        have HF : Hid (LcIn wu (fun x => P x ∨ w.heap.size ≤ x) X (.slice oy lx cy) ∧ RowAt wu (w.heap.size + 1) 54 (lcC kx nx (.slice oy lx cy)) ∧ Below w.heap.size w wu) := by
          have hs3 := HS3.out
          refine ⟨LcIn.keep (w := wz) (by omega) (fun x hx hl => hgu.block x hl (by intro e; injection e with e; rcases hx with hx | hx <;> omega)) (fun x hx _ => by rcases hx with hx | hx; exact .inl hx.1; exact .inr (by omega)) (LcIn.below hwz HZY.out), hRu, (HBY.out.trans (hwz.mono HBY.out.size)).grown hgu (by have := HBY.out.size; omega) (by intro k hk; cases hk; omega)⟩
        clear hK hS hS5 hSu hRz9 hRu hgu hsu hwz
        go_wp2
        refine bodyPost_ret (v := .tuple #[.agg (lcC kx nx (.slice oy lx cy)), .bool gd]) (res_lc_tmp Try.results62 _ _ (w.heap.size + 1) kx nx (.slice oy lx cy) (.bool gd) rfl rfl HF.out.2.1) rfl ⟨?_, HF.out.2.2⟩
        rw [HE.out]
        cases gd with
        | true => exact ⟨.slice oy lx cy, by rw [HX.out.1, HX.out.2.1], HF.out.1⟩
        | false => exact ⟨_, _, _, _, _, rfl⟩
    | cons T Bs =>
      have hil : (j : Int) < (q : Int) := by rw [HQ.out, HA.out.1, List.length_append, ← HJ.out]; simp; omega
      have hkj : t.kids[j]? = some T := by rw [HA.out.1, HJ.out]; simp
      have hTm : T ∈ t.kids := List.mem_of_getElem? hkj
      have hzr : LcIn wr (fun b => P b ∧ b < w.heap.size) t (.slice oz q cz) := LcIn.keep (w := w) HB.out.size (fun x hx hl => HB.out.block x hl) (fun x hx hl => ⟨hx, hl⟩) HZ.out
      obtain ⟨o', c', e', hpart⟩ := hzr.parts
      injection e' with e1 e2 e3
      subst e1
      clear e2 e3
      obtain ⟨g, z1, hoz, hg, ⟨k0, k1, k2⟩, hz1⟩ := hpart j T hkj
      subst hoz
      have hg1 := hg.1
      obtain ⟨oz1, cz1, hzz1'⟩ := hz1.form
      subst hzz1'
      obtain ⟨W2, hW2⟩ : ∃ W2, W2 = wr.alloc (.cells #[.int .i64 T.kd, .int .i64 T.nm, .slice oz1 T.kids.length cz1] 54) := ⟨_, rfl⟩
      have hB2 : Below wr.heap.size wr W2 := by rw [hW2]; exact (Below.refl _ _).alloc (Nat.le_refl _) _
      have hz2 : LcIn W2 (fun b => P b ∧ b < w.heap.size) T (.slice oz1 T.kids.length cz1) := LcIn.below hB2 hz1
      have hTs := HSZ.out T hTm
      have HCALL := hideT' (HIH.out T.sz (by have := HTN.out; omega) T (Nat.le_refl _) (.slice oz1 T.kids.length cz1) _ W2 hz2 (ok_kid HOK.out hTm))
      have HB2 := hideT' hB2
      have hs2 : W2.heap.size = wr.heap.size + 1 := by rw [hW2]; simp
      have HS2 := hideT' hs2
      have HRS := hideT' (And.intro hRt (And.intro hRz hRo))
      have HTM := hideT' hTm
      unfold lcC at HCALL
      clear hzr hpart hz1 hz2 hB2 hkj hTm hRt hRz hRo hTs hs2
      go_wp2_with fail
      rw [← hW2]
      refine HCALL.out.mono ?_
      rintro e w9 ⟨hout, hB9⟩
      have hB29 : Below wr.heap.size wr w9 := HB2.out.trans (hB9.mono HB2.out.size)
      have hO9 := HO.out.below hB29
      have hs9 := hB9.size
      have hsw9 : w.heap.size + 2 < w9.heap.size := by have := HS2.out; omega
      have HB9 : Hid (Below w.heap.size w w9) := HB.out.trans (hB29.mono HB.out.size)
      have HRT9 := hideT' (HRS.out.1.below hB29 (by omega))
      have HRZ9 := hideT' (HRS.out.2.1.below hB29 (by omega))
      have r0 : w9.cell? ⟨w.heap.size, 0, none⟩ = some (.int .i64 kd) := by rw [cell_of_row _ _ _ _ _ _ HRT9.out]; rfl
      have r1 : w9.cell? ⟨w.heap.size, 1, none⟩ = some (.int .i64 nm) := by rw [cell_of_row _ _ _ _ _ _ HRT9.out]; rfl
      have r2 : w9.cell? ⟨w.heap.size, 2, none⟩ = some (.slice (some ⟨g, 0, none⟩) q cz) := by rw [cell_of_row _ _ _ _ _ _ HRT9.out]; rfl
      clear k0 k1 k2 hW2
      cases hdv : T.dev with
      | some D =>
        rw [hdv] at hout
        obtain ⟨z9, rfl, hz9⟩ := hout
        have hok := hdv
        obtain ⟨o9, c9, hzz9⟩ := hz9.form
        subst hzz9
        have hp9 : LcIn w9 (OutP W3 (w.heap.size + 2) (fun x => P x ∧ x < w.heap.size) (.slice ox j cx)) D (.slice o9 D.kids.length c9) := HO.out.part (Nat.le_refl _) hz9 (fun x hx _ => by rcases hx with hx | hx; exact .inl ⟨hx, by omega⟩; exact .inr (by have := HS2.out; omega))
        obtain ⟨k9, hk9⟩ : ∃ k9, k9 = D.kd := ⟨_, rfl⟩
        obtain ⟨n9, hn9⟩ : ∃ n9, n9 = D.nm := ⟨_, rfl⟩
        obtain ⟨l9, hl9⟩ : ∃ l9, l9 = D.kids.length := ⟨_, rfl⟩
        rw [← hl9] at hp9
        rw [← hk9, ← hn9, ← hl9]
        have hOX := hO9.below ((Below.refl _ _).alloc (Nat.le_refl _) (.cells #[.int .i64 k9, .int .i64 n9, .slice o9 l9 c9] 54))
        have hpX := LcIn.below ((Below.refl w9.heap.size w9).alloc (Nat.le_refl _) (.cells #[.int .i64 k9, .int .i64 n9, .slice o9 l9 c9] 54)) hp9
        have hRX := hOX.row
        have r3 : w9.cell? ⟨w.heap.size + 2, 2, none⟩ = some (.slice ox j cx) := by rw [cell_of_row _ _ _ _ _ _ hO9.row]; rfl
        have HOX := hideT' hOX
        have HPX := hideT' hpX
        have HN9 := hideT' (And.intro hk9 (And.intro hn9 hok))
        have HLC : Hid (∀ jj uu, (lcL k9 n9 (.slice o9 l9 c9))[jj]? = some uu → ((w9.alloc (.cells #[.int .i64 k9, .int .i64 n9, .slice o9 l9 c9] 54)).alloc (.cells #[.int .i64 k9, .int .i64 n9, .slice o9 l9 c9] 54)).cell? ((⟨w9.heap.size + 1, 0, none⟩ : Addr).add jj) = some uu) := by
          have := lc_cells (w9.alloc (.cells #[.int .i64 k9, .int .i64 n9, .slice o9 l9 c9] 54)) k9 n9 (.slice o9 l9 c9)
          rw [World.size_alloc] at this
          exact this
        have hown : (w9.alloc (.cells #[.int .i64 k9, .int .i64 n9, .slice o9 l9 c9] 54)).ownsRow W3.heap.size 54 3 (.slice ox j cx) j ys := by have := hOX.own; rwa [← HDL.out, ← HJ.out] at this
        have HOWN := hideT' hown
        have hb3 : W3.heap.size ≤ w9.heap.size := by have := HO.out.size; have := HS2.out; omega
        have HROW : Hid (RowAt ((w9.alloc (.cells #[.int .i64 k9, .int .i64 n9, .slice o9 l9 c9] 54)).alloc (.cells #[.int .i64 k9, .int .i64 n9, .slice o9 l9 c9] 54)) (w.heap.size + 2) 54 (lcC kd nm (.slice ox j cx))) := RowAt.old hRX _
        have HNB : Hid (∀ b, (Value.slice ox j cx).ownBlock = some b → W3.heap.size ≤ b) := fun b e => (hown.lt b e).1
        clear hk9 hn9 hl9 hok hdv hOX hpX hRX hO9 hz9 hp9 hown hB9 hB29
        unfold lcC
        go_wp2_with (first | (at_builtin; refine append_own3 _ rfl _ _ 52 rfl W3.heap.size 54 i0 (.agg #[.int .i64 0, .int .i64 0, .slice none 0 0]) 3 40 Try.underlying52 hi hzz0 hzz1 hzz2 rfl (by decide) (.slice ox j cx) j ys rfl (HOWN.out.alloc _) ⟨w9.heap.size + 1, 0, none⟩ 1 1 (lcL k9 n9 (.slice o9 l9 c9)) rfl rfl HLC.out (lcL_one _ _ _ rfl) (by omega) (by unfold maxLen; omega) (by omega) (by simp; omega) ?_; intro v6 w6 hv6 hg6 hb6; obtain ⟨o6, c6, hv6e⟩ := own_formT hv6; subst hv6e; have hR6 : RowAt w6 (w.heap.size + 2) 54 (lcC kd nm (.slice ox j cx)) := HROW.out.grown hg6 (fun e => by have := HNB.out _ e.symm; have := HS3.out; omega); have HV6 := hideT' hv6; have HG6 := hideT' hg6; have HB6 := hideT' hb6; clear hv6 hg6 hb6) | (refine store_at rfl 52 _ _ rfl rfl (w.heap.size + 2) 2 (.slice o6 (j + 1) c6) rfl rfl one_sllc rfl 54 (lcC kd nm (.slice ox j cx)) hR6 (show 2 < 3 by omega) ?_; intro w7 hR7 hg7 hs7))
        have HEND : Hid (OutZ W3 w7 (w.heap.size + 2) kd nm (fun x => P x ∧ x < w.heap.size) (ds ++ [D]) (.slice o6 (j + 1) c6) (ys ++ lcL D.kd D.nm (.slice o9 l9 c9))) := by
          unfold Hid
          refine OutZ.push HOX.out HPX.out ?_ HG6.out HB6.out hR7 hg7
          rw [← HDL.out, ← HJ.out, ← HN9.out.1, ← HN9.out.2.1]
          exact HV6.out
        have HA2 : Hid (t.kids = (As ++ [T]) ++ Bs ∧ (As ++ [T]).map Lm.dev = (ds ++ [D]).map some) := ⟨by rw [HA.out.1]; simp, by rw [List.map_append, HA.out.2]; simp [HN9.out.2.2]⟩
        have HB7 : Hid (Below w.heap.size w w7) := ((HB9.out.alloc (by omega) _).alloc (by simp; omega) _ |>.grown HG6.out (by simp; omega) (fun k e => by have := HNB.out k e; have := HS3.out; omega)).grown hg7 (by have := HG6.out.size; simp at this; omega) (by intro k hk; cases hk; omega)
        clear hR7 hg7 hs7 hR6
        go_wp2
        go_roundg Bs.length
        case measure => first | omega | (rw [hgg]; simp)
        case rel => exact ⟨As ++ [T], Bs, ds ++ [D], .slice o6 (j + 1) c6, _, rfl, HA2, by rw [List.length_append, ← HJ.out]; go_num, HEND, HB7⟩
      | none =>
        rw [hdv] at hout
        obtain ⟨k9, n9, o9, m9, c9, rfl⟩ := hout
        have HNO : Hid (t.dev = none) := dev_none HTM.out hdv
        unfold lcC
        clear hdv hB9 hB29 hO9
        go_wp2_with (first | (refine wpList_load_row rfl 54 _ rfl w.heap.size rfl 54 #[.int .i64 kd, .int .i64 nm, .slice (some ⟨g, 0, none⟩) q cz] (0, 0) _ (RowAt.old HRT9.out _) Try.underlying54 rfl zero_lcT.2 ?_) | (refine store_3 rfl 54 _ _ rfl rfl zero_lcT.2 (w.heap.size + 1) (lcC kd nm (.slice (some ⟨g, 0, none⟩) q cz)) rfl (lcC_one _ _ _ rfl) rfl rfl _ rfl (RowAt.old HRZ9.out _) ?_; intro w5 hR5 hg5 hs5))
        exact bodyPost_ret (v := .tuple #[.agg (lcC kd nm (.slice (some ⟨g, 0, none⟩) q cz)), .bool false]) (res_lc_tmp Try.results62 _ _ (w.heap.size + 1) kd nm (.slice (some ⟨g, 0, none⟩) q cz) (.bool false) rfl rfl hR5) rfl ⟨by rw [HNO.out]; exact ⟨_, _, _, _, _, rfl⟩, (HB9.out.alloc (by omega) _).grown hg5 (by simp; omega) (by intro k hk; cases hk; omega)⟩
theorem lcDevelop_all : ∀ N, LdvC N := by
  intro N
  induction N using Nat.strongRecOn with
  | _ N IH => exact lcDevelop_step N IH
end Go.Proofs.Ytbnagagdboeedaa

/-
  What both DevelopTerm answer.
-/
namespace Go.Proofs.Ytbnagagdboeedaa
open Go.RowKit BL
set_option linter.unusedVariables false

def DvT (l : List Nd) : Option Lm := match readP' l with
  | some t => t.dev
  | none => none
theorem DvT_l {l : List Nd} (h : readP' l = none) : DvT l = none := by unfold DvT; rw [h]
theorem DvT_ok {l : List Nd} {t : Lm} (h1 : readP' l = some t) : DvT l = t.dev := by unfold DvT; rw [h1]
set_option maxHeartbeats 4000000 in
theorem implDevelopTerm_any (l : List Nd) (v : Value) (w : World) (hv : NdIn w v l) (hl : l.length ≤ 1048576) :
    Calls Try.prog 28 #[v] w fun e w' => TOut w (DvT l) e w' ∧ Below w.heap.size w w' := by
  have HC := hideT' (readTree_any l v w hv hl)
  clear hv
  go_enter Try.func28, Try.ntmps28
  go_wp2_with fail
  refine HC.out.mono ?_
  rintro e w1 ⟨hans, hB1⟩
  have HB1 := hideT' hB1
  clear hB1
  rcases hans with ⟨p, rfl, hn⟩ | ⟨t, b, rfl, hr, hT⟩
  · have HN := hideT' (DvT_l hn)
    clear hn
    go_wp2
    go_ret2
    exact ⟨TOut.bad HN.out, HB1.out⟩
  · have f1 := readP'_facts hr
    have HN := hideT' (DvT_ok hr)
    have HC3 := hideT' (developed_all t.sz t (Nat.le_refl _) b _ w1 hT f1.2.2.2.1)
    clear hr hT f1
    go_wp2_with fail
    refine HC3.out.mono ?_
    rintro e w3 ⟨hans, hB3⟩
    have HB3 : Hid (Below w.heap.size w w3) := HB1.out.trans (hB3.mono HB1.out.size)
    clear hB3
    cases hdv : t.dev with
    | none =>
      rw [hdv] at hans
      obtain ⟨p, rfl⟩ := hans
      have HE : Hid (DvT l = none) := by unfold Hid; rw [HN.out, hdv]
      clear hdv
      go_wp2
      go_ret2
      exact ⟨TOut.bad HE.out, HB3.out⟩
    | some s =>
      rw [hdv] at hans
      obtain ⟨b3, rfl, hT3⟩ := hans
      have HE : Hid (DvT l = some s) := by unfold Hid; rw [HN.out, hdv]
      have hgs := Lm.good_sz (Lm.dev_good hdv)
      have HC4 := hideT' (tellTree_any s b3 _ w3 hT3 (by omega))
      clear hT3 hdv hgs
      go_wp2_with fail
      refine HC4.out.mono ?_
      rintro e w4 ⟨hT4, hB4⟩
      obtain ⟨u4, rfl, hO4⟩ := hT4
      have HF : Hid (TOut w (DvT l) (.returned (.tuple #[u4, .bool s.good])) w4 ∧ Below w.heap.size w w4) := ⟨ToldT.out (t := s) ⟨u4, rfl, hO4⟩ HB3.out.size HE.out, HB3.out.trans (hB4.mono HB3.out.size)⟩
      obtain ⟨q, hq⟩ : ∃ q, q = s.good := ⟨_, rfl⟩
      rw [← hq] at HF ⊢
      clear hq hO4 hB4
      go_wp2
      go_ret2
      exact HF.out
set_option maxHeartbeats 4000000 in
theorem specDevelopTerm_any (l : List Nd) (v : Value) (w : World) (hv : NdIn w v l) (hl : l.length ≤ 1048576) :
    Calls Try.prog 27 #[v] w fun e w' => TOut w (DvT l) e w' ∧ Below w.heap.size w w' := by
  have hz0 := zero_lcT.1
  have HV := hideT' hv
  have HC := hideT' (specGoodTerm_any l v w hv hl)
  clear hv
  cases hr : readP' l with
  | none =>
    have HN := hideT' (DvT_l hr)
    rw [goodS_none hr] at HC
    clear hr
    go_enter Try.func27, Try.ntmps27
    go_wp2_with fail
    refine HC.out.mono ?_
    rintro e w1 ⟨rfl, hB1⟩
    go_wp2
    go_ret2
    exact ⟨TOut.bad HN.out, hB1⟩
  | some t =>
    rw [goodS_some hr] at HC
    have HR := hideT' hr
    have HF1 := hideT' (readP'_facts hr)
    have HN := hideT' (DvT_ok hr)
    clear hr
    go_enter Try.func27, Try.ntmps27
    go_wp2_with fail
    refine HC.out.mono ?_
    rintro e w2 ⟨rfl, hB2⟩
    have HB2 := hideT' hB2
    clear hB2
    have HC4 := hideT' (lcTree_whole l t v w2 (HV.out.below HB2.out) HR.out)
    go_wp2_with fail
    refine HC4.out.mono ?_
    rintro e w5 ⟨⟨z5, rfl, hz5⟩, hB5⟩
    have HB5 : Hid (Below w.heap.size w w5) := HB2.out.trans (hB5.mono HB2.out.size)
    have HC5 := hideT' (lcDevelop_all t.sz t (Nat.le_refl _) z5 _ w5 hz5 HF1.out.2.2.2.1)
    clear hB5 hz5
    go_wp2_with fail
    refine HC5.out.mono ?_
    rintro e w6 ⟨hans, hB6⟩
    have HB6 : Hid (Below w.heap.size w w6) := HB5.out.trans (hB6.mono HB5.out.size)
    clear hB6
    cases hdv : t.dev with
    | none =>
      rw [hdv] at hans
      obtain ⟨k6, n6, o6, m6, c6, rfl⟩ := hans
      have HE : Hid (DvT l = none) := by unfold Hid; rw [HN.out, hdv]
      unfold lcC
      clear hdv
      go_wp2
      go_ret2
      exact ⟨TOut.bad HE.out, HB6.out.alloc HB6.out.size _⟩
    | some T =>
      rw [hdv] at hans
      obtain ⟨z6, rfl, hz6⟩ := hans
      obtain ⟨o6, c6, hzz6⟩ := hz6.form
      subst hzz6
      have HE : Hid (DvT l = some T) := by unfold Hid; rw [HN.out, hdv]
      obtain ⟨W, hWd⟩ : ∃ W, W = w6.alloc (.cells #[.int .i64 T.kd, .int .i64 T.nm, .slice o6 T.kids.length c6] 54) := ⟨_, rfl⟩
      have hBW : Below w6.heap.size w6 W := by rw [hWd]; exact (Below.refl _ _).alloc (Nat.le_refl _) _
      have HBW : Hid (Below w.heap.size w W) := HB6.out.trans (hBW.mono HB6.out.size)
      have HC6 := hideT' (lcTold_any T (.slice o6 T.kids.length c6) _ W (LcIn.below hBW hz6))
      unfold lcC at HC6 ⊢
      clear hz6 hBW hdv
      go_wp2_with fail
      rw [← hWd]
      refine HC6.out.mono ?_
      rintro e w7 ⟨hT7, hB7⟩
      obtain ⟨u7, rfl, hO7⟩ := hT7
      have HF : Hid (TOut w (DvT l) (.returned (.tuple #[u7, .bool T.good])) w7 ∧ Below w.heap.size w w7) := ⟨ToldT.out (t := T) ⟨u7, rfl, hO7⟩ HBW.out.size HE.out, HBW.out.trans (hB7.mono HBW.out.size)⟩
      obtain ⟨q, hq⟩ : ∃ q, q = T.good := ⟨_, rfl⟩
      rw [← hq] at HF ⊢
      clear hq hO7 hB7 hWd
      go_wp2
      go_ret2
      exact HF.out
end Go.Proofs.Ytbnagagdboeedaa

/-
  Rows of Term that are answers: what the laws' own helpers over them say.
-/
namespace Go.Proofs.Ytbnagagdboeedaa
open Go.RowKit
set_option linter.unusedVariables false
/-- One that is marked. -/
def markTerm (k : Int) : Int × Int × Int := (k, k + 1, k + 1 + 1)
theorem runX_term {o : Oper} {a : Act} {w : World} (x : Operand) (ho : o.op = .load 57 x) (b i : Nat) (hx : a.eval x = .pointer (some ⟨b, i * 3, none⟩)) (d : Int × Int × Int) (hD : w.rangeAt b (i * 3) (termL d)) :
    (execOp a.eval o).run Try.prog w = .ok (.value (.agg (termL d).toArray)) w := by
  have h := run_loadAt_mid (P := Try.prog) w b (i * 3) 57 (termL d) _ hD Try.underlying57 rfl zero_term.2
  unfold execOp
  simp only [ho, hx, Sem.run_bind, h, Result.andThen_ok]
  rfl
set_option maxHeartbeats 1000000 in
set_option maxRecDepth 100000 in
theorem eqTermS_in (v1 v2 : Value) (l : List (Int × Int × Int)) (w : World) (hl : l.length ≤ 1048576) (h1 : InR w v1 termL 3 l) (h2 : InR w v2 termL 3 l) :
    Calls Try.prog 20 #[v1, v2] w fun e w' => e = .returned (.bool true) ∧ Below w.heap.size w w' := by
  obtain ⟨o1, cap1, rfl, h1⟩ := h1
  obtain ⟨o2, cap2, rfl, h2⟩ := h2
  rcases Classical.em (l = []) with rfl | hne
  · clear h1 h2
    go_enter Try.func20, Try.ntmps20
    go_wp2_with fail
    go_loopg [5] 0 (fun g i wr => i = .int .i64 0 ∧ wr = w)
    case atStart => exact ⟨rfl, rfl⟩
    case round =>
      obtain ⟨rfl, rfl⟩ := hrel
      go_wp2
      go_ret
      exact ⟨rfl, Below.refl _ _⟩
  obtain ⟨b1, rfl, hb1, h1⟩ := h1 hne
  obtain ⟨b2, rfl, hb2, h2⟩ := h2 hne
  have H1 := hideT' h1
  have H2 := hideT' h2
  clear h1 h2 hne
  go_enter Try.func20, Try.ntmps20
  go_wp2_with fail
  go_loopg [5] l.length (fun g i wr => ∃ k : Nat, g = l.length - k ∧ k ≤ l.length ∧ i = .int .i64 (k : Int) ∧ Below w.heap.size w wr)
  case atStart => exact ⟨0, rfl, by omega, rfl, Below.refl _ _⟩
  case round =>
    obtain ⟨k, hg, hk, rfl, hW⟩ := hrel
    by_cases hlt : (k : Int) < (l.length : Int)
    · have hk' : k < l.length := by omega
      obtain ⟨d, hd⟩ : ∃ d, d = l.getD k default := ⟨_, rfl⟩
      have HDM := hideT' hd
      have h1 := H1.out
      have h2 := H2.out
      clear hd
      have hrg : ∀ w', Below w.heap.size w w' → w'.rangeAt b1 (k * 3) (termL d) ∧ w'.rangeAt b2 (k * 3) (termL d) := fun w' hB => by
        refine ⟨fun j u hu => ?_, fun j u hu => ?_⟩
        · rw [hB.cell (p := ⟨b1, k * 3 + j, none⟩) hb1]; rw [HDM.out] at hu; exact h1 k j u hk' hu
        · rw [hB.cell (p := ⟨b2, k * 3 + j, none⟩) hb2]; rw [HDM.out] at hu; exact h2 k j u hk' hu
      have HRG := hideT' hrg
      have hS := hrg wr.drew (Below.drew hW)
      clear h1 h2 hrg
      go_wp2_with fail
      refine held_begin (fun w' => w'.rangeAt b1 (k * 3) (termL d) ∧ w'.rangeAt b2 (k * 3) (termL d)) (by kernel_rfl) ?_
      refine held_val 0 (some 17) rfl rfl (by kernel_rfl) (by kernel_rfl) (by kernel_rfl) noPanic_put rfl (.slice (some ⟨b1, 0, none⟩) l.length cap1) (fun _ => rfl) hS ?_
      simp only [Act.put, List.setIfInBounds_toArray, List.set_cons_zero, List.set_cons_succ]
      refine held_val 1 (some 18) rfl rfl (by kernel_rfl) (by kernel_rfl) (by kernel_rfl) noPanic_put rfl (.int .i64 (k : Int)) (fun _ => rfl) hS ?_
      simp only [Act.put, List.setIfInBounds_toArray, List.set_cons_zero, List.set_cons_succ]
      refine held_val 2 (some 19) rfl rfl (by kernel_rfl) (by kernel_rfl) (by kernel_rfl) noPanic_put rfl (.pointer (some ⟨b1, k * 3, none⟩)) (fun _ => by go_simp) hS ?_
      simp only [Act.put, List.setIfInBounds_toArray, List.set_cons_zero, List.set_cons_succ]
      refine held_valS 3 (some 20) rfl rfl (by kernel_rfl) (by kernel_rfl) (by kernel_rfl) noPanic_put rfl (.agg (termL d).toArray) (fun _ hw' => runX_term _ rfl b1 k rfl d hw'.1) hS ?_
      simp only [Act.put, List.setIfInBounds_toArray, List.set_cons_zero, List.set_cons_succ]
      refine held_val 4 (some 21) rfl rfl (by kernel_rfl) (by kernel_rfl) (by kernel_rfl) noPanic_put rfl (.slice (some ⟨b2, 0, none⟩) l.length cap2) (fun _ => rfl) hS ?_
      simp only [Act.put, List.setIfInBounds_toArray, List.set_cons_zero, List.set_cons_succ]
      refine held_val 5 (some 22) rfl rfl (by kernel_rfl) (by kernel_rfl) (by kernel_rfl) noPanic_put rfl (.int .i64 (k : Int)) (fun _ => rfl) hS ?_
      simp only [Act.put, List.setIfInBounds_toArray, List.set_cons_zero, List.set_cons_succ]
      refine held_val 6 (some 23) rfl rfl (by kernel_rfl) (by kernel_rfl) (by kernel_rfl) noPanic_put rfl (.pointer (some ⟨b2, k * 3, none⟩)) (fun _ => by go_simp) hS ?_
      simp only [Act.put, List.setIfInBounds_toArray, List.set_cons_zero, List.set_cons_succ]
      refine held_valS 7 (some 24) rfl rfl (by kernel_rfl) (by kernel_rfl) (by kernel_rfl) noPanic_put rfl (.agg (termL d).toArray) (fun _ hw' => runX_term _ rfl b2 k rfl d hw'.2) hS ?_
      simp only [Act.put, List.setIfInBounds_toArray, List.set_cons_zero, List.set_cons_succ]
      refine held_call 8 (some 25) (by kernel_rfl) rfl rfl rfl 56 #[.agg (termL d).toArray, .agg (termL d).toArray] (by go_simp) _ (eqTerm_any d wr.drew) ?_
      rintro e w2 ⟨rfl, hW2⟩
      have hW2 : Below wr.heap.size wr w2 := ⟨hW2.os, hW2.tape, hW2.output, hW2.size, hW2.block⟩
      have hW3 := hW.trans (hW2.mono hW.size)
      have hS2 := HRG.out w2 hW3
      refine ⟨_, rfl, hS2, ?_⟩
      simp only [Act.put, List.setIfInBounds_toArray, List.set_cons_zero, List.set_cons_succ]
      refine held_val 9 (some 26) rfl rfl (by kernel_rfl) (by kernel_rfl) (by kernel_rfl) noPanic_put rfl (.bool false) (fun _ => by go_simp) hS2 ?_
      simp only [Act.put, List.setIfInBounds_toArray, List.set_cons_zero, List.set_cons_succ]
      refine wpAnyH_done (by kernel_rfl) ?_ _
      refine NoPanic.normal ?_
      go_wp2
      go_roundg (l.length - (k + 1))
      case measure => omega
      case rel => exact ⟨k + 1, rfl, by omega, by go_num, hW3⟩
    · go_wp2
      go_ret
      exact ⟨rfl, hW⟩
set_option maxHeartbeats 2000000 in
set_option maxRecDepth 100000 in
theorem markTermS_own (v : Value) (n : Nat) (xs0 : List Value) (k : Int) (B : Nat) (w : World) (hk0 : 0 < k) (hk1 : k + 3 * (n : Int) ≤ 1099511627776) (h : w.ownsRow B 57 3 v n xs0) :
    Calls Try.prog 21 #[v, .int .i64 k] w fun e w' => e = .returned (.int .i64 (k + 3 * (n : Int))) ∧ OwnR w' B v 57 termL 3 (markL markTerm 3 k n) ∧ w.grownBy w' v.ownBlock := by
  rcases h.2 with ⟨rfl, rfl⟩ | ⟨b, cap, cur, rfl, hB, _⟩
  · have hx : k + 3 * ((0 : Nat) : Int) = k := by simp
    rw [hx]
    clear hx hk1
    go_enter Try.func21, Try.ntmps21
    go_wp2_with fail
    go_loopg [1, 5] 0 (fun g x i wr => x = .int .i64 k ∧ i = .int .i64 0 ∧ wr = w)
    case atStart => exact ⟨rfl, rfl, rfl⟩
    case round =>
      obtain ⟨rfl, rfl, rfl⟩ := hrel
      go_wp2
      go_ret
      exact ⟨rfl, by simpa [OwnR, markL] using World.ownsRow_nil _ _ _ _, ⟨rfl, rfl, rfl, Nat.le_refl _, fun _ _ _ => rfl⟩⟩
  · obtain ⟨N, hN⟩ : ∃ N : Int, N = k + 3 * (n : Int) := ⟨_, rfl⟩
    have HN := hideT' hN
    have HB := hideT' hk1
    clear hN hk1
    go_enter Try.func21, Try.ntmps21
    go_wp2_with fail
    go_loopg [1, 5] n (fun g x i wr => ∃ (j : Nat) (y : Int) (xs : List Value), g = n - j ∧ j ≤ n ∧ i = .int .i64 (j : Int) ∧ x = .int .i64 y ∧ 0 < y ∧ y ≤ 1099511627776 ∧ Hid (y = k + 3 * (j : Int)) ∧ wr.ownsRow B 57 3 (.slice (some ⟨b, 0, none⟩) n cap) n xs ∧ Hid (Marked termL markTerm 3 k j xs) ∧ w.grownBy wr (some b))
    case atStart => exact ⟨0, k, xs0, rfl, by omega, rfl, rfl, by omega, by have := HB.out; omega, by simp [Hid], h, (fun j hj => by omega : Marked termL markTerm 3 k 0 xs0), ⟨rfl, rfl, rfl, Nat.le_refl _, fun _ _ _ => rfl⟩⟩
    case round =>
      clear h
      obtain ⟨j, x, xs, hg, hj, rfl, rfl, hx0, hx1, HX, hown, HM, hG⟩ := hrel
      by_cases hlt : (j : Int) < (n : Int)
      · have hj' : j < n := by omega
        have HJ : Hid (j * 3 + 3 ≤ n * 3) := by unfold Hid; omega
        have hx2 : x + 3 ≤ 1099511627776 := by have := HB.out; have := HX.out; omega
        go_wp2_with (first | (refine store_own rfl 3 _ _ rfl rfl b (j * 3) (.int .i64 (x)) rfl rfl size1_int rfl hown (by have := HJ.out; omega) ?_; intro w1 own1 hg1 hs1) | (refine store_own rfl 3 _ _ rfl rfl b (j * 3 + 1) (.int .i64 (x + 1)) rfl rfl size1_int rfl own1 (by have := HJ.out; omega) ?_; intro w2 own2 hg2 hs2) | (refine store_own rfl 3 _ _ rfl rfl b (j * 3 + 2) (.int .i64 (x + 1 + 1)) rfl rfl size1_int rfl own2 (by have := HJ.out; omega) ?_; intro w3 own3 hg3 hs3))
        go_roundg (n - (j + 1))
        case measure => omega
        case rel =>
          have hbb := HB.out
          refine ⟨j + 1, x + 3, _, rfl, by omega, congrArg (Value.int .i64) (by unfold wrap64; omega), congrArg (Value.int .i64) (by omega), by omega, hx2, by have := HX.out; unfold Hid; omega, own3, ?_, (grownX_trans (grownX_trans (grownX_trans hG hg1) hg2) hg3)⟩
          intro i hi q hq
          by_cases e : i = j
          · subst e
            have hxe : k + ((3 : Nat) : Int) * (i : Int) = x := by have := HX.out; omega
            rw [hxe]
            have hl1 := hown.1
            match q, hq with
            | 0, _ => simp [List.getElem?_set, termL, markTerm]; omega
            | 1, _ => simp [List.getElem?_set, termL, markTerm]; omega
            | 2, _ => simp [List.getElem?_set, termL, markTerm]; omega
          · exact (((HM.out.set (j * 3) (.int .i64 (x)) (by omega)).set (j * 3 + 1) (.int .i64 (x + 1)) (by omega)).set (j * 3 + 2) (.int .i64 (x + 1 + 1)) (by omega)) i (by omega) q hq
      · have hjn : j = n := by omega
        subst hjn
        have hxs := HM.out.all termL_len hown.1
        rw [hxs] at hown
        have HO := hideT' hown
        clear hown hxs
        have HXN : Hid (x = N) := by unfold Hid; rw [HX.out, HN.out]
        go_wp2
        go_ret
        refine ⟨by rw [← HN.out, ← HXN.out]; rfl, ?_, hG⟩
        have := HO.out
        unfold OwnR
        rw [markL_len]
        exact this
set_option maxHeartbeats 2000000 in
set_option maxRecDepth 100000 in
theorem heldTermS_in (v : Value) (n : Nat) (k : Int) (w : World) (hk0 : 0 < k) (hk1 : k + 3 * (n : Int) ≤ 1099511627776) (h : InR w v termL 3 (markL markTerm 3 k n)) :
    Calls Try.prog 26 #[v, .int .i64 k] w fun e w' => e = .returned (.int .i64 (k + 3 * (n : Int))) ∧ Below w.heap.size w w' := by
  obtain ⟨o, cap, rfl, h⟩ := h
  rw [markL_len]
  rcases Nat.eq_zero_or_pos n with rfl | hn
  · have hx : k + 3 * ((0 : Nat) : Int) = k := by simp
    rw [hx]
    clear hx hk1 h
    go_enter Try.func26, Try.ntmps26
    go_wp2_with fail
    go_loopg [1, 5] 0 (fun g x i wr => x = .int .i64 k ∧ i = .int .i64 0 ∧ wr = w)
    case atStart => exact ⟨rfl, rfl, rfl⟩
    case round =>
      obtain ⟨rfl, rfl, rfl⟩ := hrel
      go_wp2
      go_ret
      exact ⟨rfl, Below.refl _ _⟩
  obtain ⟨b, rfl, hb, h1⟩ := h (by intro e; have := congrArg List.length e; rw [markL_len] at this; simp at this; omega)
  obtain ⟨N, hN⟩ : ∃ N : Int, N = k + 3 * (n : Int) := ⟨_, rfl⟩
  have HN := hideT' hN
  have HB := hideT' hk1
  have H1 := hideT' h1
  clear hN hk1 h1 h
  go_enter Try.func26, Try.ntmps26
  go_wp2_with fail
  go_loopg [1, 5] n (fun g x i wr => ∃ (j : Nat) (y : Int), g = n - j ∧ j ≤ n ∧ i = .int .i64 (j : Int) ∧ x = .int .i64 y ∧ 0 < y ∧ y ≤ 1099511627776 ∧ Hid (y = k + 3 * (j : Int)) ∧ Below w.heap.size w wr)
  case atStart => exact ⟨0, k, rfl, by omega, rfl, rfl, by omega, by have := HB.out; omega, by simp [Hid], Below.refl _ _⟩
  case round =>
    obtain ⟨j, x, hg, hj, rfl, rfl, hx0, hx1, HX, hW⟩ := hrel
    by_cases hlt : (j : Int) < (n : Int)
    · have hj' : j < n := by omega
      have hx2 : x + 3 ≤ 1099511627776 := by have := HB.out; have := HX.out; omega
      have hxe : k + ((3 : Nat) : Int) * (j : Int) = x := by have := HX.out; omega
      have hcell : ∀ q u, (termL (markTerm x))[q]? = some u → wr.cell? ⟨b, j * 3 + q, none⟩ = some u := fun q u hu => by
        have := H1.out j q u (by rw [markL_len]; exact hj') (by rw [markL_get markTerm 3 k n j hj', hxe]; exact hu)
        exact (hW.cell (p := ⟨b, j * 3 + q, none⟩) hb).trans this
      have c0 := hcell 0 (.int .i64 (x)) rfl
      have c1 := hcell 1 (.int .i64 (x + 1)) rfl
      have c2 := hcell 2 (.int .i64 (x + 1 + 1)) rfl
      rw [Nat.add_zero] at c0
      have HC := hideT' hcell
      clear hcell hxe
      go_wp2
      go_roundg (n - (j + 1))
      case measure => omega
      case rel =>
        have hbb := HB.out
        exact ⟨j + 1, x + 3, rfl, by omega, congrArg (Value.int .i64) (by unfold wrap64; omega), congrArg (Value.int .i64) (by omega), by omega, hx2, by have := HX.out; unfold Hid; omega, hW⟩
    · have hjn : j = n := by omega
      have HXN : Hid (x = N) := by unfold Hid; rw [HX.out, HN.out, hjn]
      go_wp2
      go_ret
      exact ⟨by rw [← HN.out, ← HXN.out]; rfl, hW⟩
end Go.Proofs.Ytbnagagdboeedaa

/-
  Nodes that came in as an argument: what their reading says of the cells.
-/
namespace Go.Proofs.Ytbnagagdboeedaa
open Go.ChangeShapes Go.WideShapes Go.ChangeAt Go.RowKit
set_option linter.unusedVariables false

def ndsOf (l : List (Int × Int × Int)) : List Nd := l.map fun x => ⟨x.1, x.2.1, x.2.2⟩
theorem tri_ndsOf (l : List (Int × Int × Int)) : tri (ndsOf l) = l := by
  unfold tri ndsOf triN
  rw [List.map_map]
  exact List.map_id' l
theorem ndsOf_len (l : List (Int × Int × Int)) : (ndsOf l).length = l.length := by simp [ndsOf]
theorem ndsOf_tri (l : List Nd) : ndsOf (tri l) = l := by
  unfold tri ndsOf triN
  rw [List.map_map]
  exact List.map_id' l
theorem RecAt.nds {w : World} {b : Nat} {T : TypeId} {l : List (Int × Int × Int)} (h : RecAt w b T termL l) : NdIn w (slR b l) (ndsOf l) := by
  unfold NdIn
  rw [tri_ndsOf]
  exact h.inR termL_len

theorem cells_intT : Try.prog.cellsOf 3 = 1 := by kernel_rfl
set_option maxRecDepth 100000 in
theorem open_term {H : Type} {enc : TypeId × Value → H} {W : World} (n : Nat) (cs : List Value) (x : DataW H × List MemPlace) (hl : cs.length = 3) (h : DataW.trod enc Try.prog W 0 (fun _ => true) true n 59 cs = some x) :
    ∃ d : Int × Int × Int, cs = termL d ∧ True := by
  obtain ⟨xs, m, _, _, _, hlen, hf⟩ := DataW.trod_struct Try.underlying59 h
  obtain ⟨a, b, c, rfl⟩ : ∃ a b c, cs = [a, b, c] := by
    match cs, hl with
    | [a, b, c], _ => exact ⟨a, b, c, rfl⟩
  obtain ⟨y0, y1, y2, rfl⟩ : ∃ y0 y1 y2, xs = [y0, y1, y2] := by
    match xs, hlen with
    | [y0, y1, y2], _ => exact ⟨y0, y1, y2, rfl⟩
  have g0 : DataW.trod enc Try.prog W 0 (fun _ => true) true m 3 (([a, b, c].drop 0).take (Try.prog.cellsOf 3)) = some y0 := by simpa using hf 0 _ rfl
  have g1 : DataW.trod enc Try.prog W 0 (fun _ => true) true m 3 (([a, b, c].drop 1).take (Try.prog.cellsOf 3)) = some y1 := by simpa using hf 1 _ rfl
  have g2 : DataW.trod enc Try.prog W 0 (fun _ => true) true m 3 (([a, b, c].drop 2).take (Try.prog.cellsOf 3)) = some y2 := by simpa using hf 2 _ rfl
  rw [cells_intT] at g0 g1 g2
  obtain ⟨k, e0, _, _⟩ := DataW.trod_int Try.underlying3 g0
  obtain ⟨u, e1, _, _⟩ := DataW.trod_int Try.underlying3 g1
  obtain ⟨t, e2, _, _⟩ := DataW.trod_int Try.underlying3 g2
  simp at e0 e1 e2
  exact ⟨(k, u, t), by rw [e0, e1, e2]; rfl, trivial⟩
theorem cells_lterm : Try.prog.cellsOf 59 = 3 := by kernel_rfl

set_option maxRecDepth 100000 in
theorem open_terms {H : Type} {enc : TypeId × Value → H} {W : World} {base : Nat} {v : Value} {d : DataW H} {ps : List MemPlace} (hval : Value.okWide Try.prog W .any base 22 v) (h : DataW.Trod enc Try.prog W 0 (fun _ => true) true 22 v d ps) :
    ∃ l : List (Int × Int × Int), SlR W v termL 3 l ∧ l.length ≤ maxLen := by
  obtain ⟨a0, len, cap, rfl⟩ := okWide_slice Try.underlying22 hval
  obtain ⟨fuel, hf⟩ := h
  obtain ⟨v', l, e1, hL, q1, q2⟩ := open_recs termL 3 (by decide) termL_len (fun _ => True) Try.underlying22 cells_lterm open_term hf
  have e2 : Value.slice a0 len cap = v' := by simpa [Value.cells] using e1
  rw [e2]
  exact ⟨l, hL, q2⟩
end Go.Proofs.Ytbnagagdboeedaa
