/-
  The texts SpecRed, ReduceT, NormalT, NormalU, MarkTerm, TermArg, one behind the other, as one.
-/
import Derived.Test.YtbnagagdboeedaaSpecGoodT
import Derived.Test.YtbnagagdboeedaaImplRedB
import Derived.Test.YtbnagagdboeedaaReduceA
import Derived.Test.YtbnagagdboeedaaTold
import Derived.Test.YtbnagagdboeedaaFloat
import Derived.OwnWalk
import Derived.Lib.Walk
import Derived.Lib.SliceRun
import Derived.Test.YtbnagagdboeedaaRecs2
import Derived.Test.YtbnagagdboeedaaRecTerm
import Derived.Test.YtbnagagdboeedaaRecArg
import Derived.Test.YtbnagagdboeedaaTreeMem

/-
  What lcRedexes and RedexesIn of the model answer; RedexesIn of the program.
-/
namespace Go.Proofs.Ytbnagagdboeedaa
open Go.RowKit BL
set_option linter.unusedVariables false

theorem Seg.spot {l : List Nd} : ∀ {t : Lm} {a : Nat} {up : Int}, Seg l t a up → ∀ m, ∀ x ∈ t.walk a up m, ndAt l x.at_ = x.nd ∧ x.at_ + x.t.sz ≤ a + t.sz
  | .var n, a, up, h, m, x, hx => by
    simp only [Lm.walk, List.mem_singleton] at hx
    subst hx
    exact ⟨h.nd, Nat.le_refl _⟩
  | .lam t, a, up, h, m, x, hx => by
    rw [Lm.walk] at hx
    rcases List.mem_cons.1 hx with rfl | hx
    · exact ⟨h.nd, Nat.le_refl _⟩
    · have := Seg.spot h.2 _ x hx
      exact ⟨this.1, by have := this.2; simp only [Lm.sz]; omega⟩
  | .app s t, a, up, h, m, x, hx => by
    rw [Lm.walk] at hx
    rcases List.mem_cons.1 hx with rfl | hx
    · exact ⟨h.nd, Nat.le_refl _⟩
    · rcases List.mem_append.1 hx with hx | hx
      · have := Seg.spot h.2.1 _ x hx
        exact ⟨this.1, by have := this.2; simp only [Lm.sz]; omega⟩
      · have := Seg.spot h.2.2 _ x hx
        exact ⟨this.1, by have := this.2; simp only [Lm.sz]; omega⟩
/-- An application has a node behind it. -/
theorem flat_next (t : Lm) (k : Nat) (hk : k < t.sz) (h3 : (ndAt (t.flat 0 (-1)) k).k = 3) : k + 1 < t.sz := by
  have h1 : k ∈ (t.walk 0 (-1) 0).map Spot.at_ := by rw [Lm.walk_ats]; simp [List.mem_range']; omega
  obtain ⟨x, hx, rfl⟩ := List.mem_map.1 h1
  have h2 := Seg.spot (Seg.whole t) 0 x hx
  rw [h2.1] at h3
  simp only [Spot.nd] at h3
  cases hx' : x.t with
  | var n => rw [hx'] at h3; simp [Lm.kd] at h3
  | lam s => rw [hx'] at h3; simp [Lm.kd] at h3
  | app p q =>
    have h4 := h2.2
    rw [hx'] at h4
    simp only [Lm.sz] at h4
    have := p.sz_pos
    omega
def redsTo (l : List Nd) (k : Nat) : List Nat := (List.range k).filter (redN l)
theorem redsTo_succ (l : List Nd) (k : Nat) : redsTo l (k + 1) = redsTo l k ++ (if redN l k then [k] else []) := by
  unfold redsTo
  rw [List.range_succ, List.filter_append]
  congr 1
  cases h : redN l k <;> simp [List.filter, h]
theorem redsTo_le (l : List Nd) (k : Nat) : (redsTo l k).length ≤ k := by
  unfold redsTo
  exact Nat.le_trans (List.length_filter_le _ _) (by simp)

set_option maxHeartbeats 4000000 in
set_option maxRecDepth 100000 in
theorem lcRedexes_any (t : Lm) (v : Value) (w : World) (hv : NdIn w v (t.flat 0 (-1))) (hs : t.sz ≤ 1000000) :
    Calls Try.prog 103 #[v] w fun e w' => (∃ u, e = .returned u ∧ OwnR w' w.heap.size u 3 intL 1 (natsI t.reds)) ∧ Below w.heap.size w w' := by
  have HV := hideT' hv
  obtain ⟨o, cap, rfl⟩ := hv.len
  clear hv
  obtain ⟨i0, hi, hz0, hz1, hz2⟩ := info_parts info_int
  have hz := zero_term.1
  obtain ⟨l, hl⟩ : ∃ l, l = t.flat 0 (-1) := ⟨_, rfl⟩
  rw [← hl] at HV ⊢
  obtain ⟨n, hn⟩ : ∃ n, n = l.length := ⟨_, rfl⟩
  have HNS : Hid (n = t.sz) := by unfold Hid; rw [hn, hl, Lm.flat_sz]
  have HNX : Hid (∀ k, k < n → (ndAt l k).k = 3 → k + 1 < n) := fun k hk h3 => by rw [HNS.out]; exact flat_next t k (by rw [← HNS.out]; exact hk) (by rw [← hl]; exact h3)
  have HRE : Hid (redsTo l n = t.reds) := by
    unfold Hid
    rw [← redsN_flat, ← hl, hn]; rfl
  have HNN := hideT' hn
  have hn1 : n ≤ 1000000 := by rw [HNS.out]; exact hs
  rw [← hn]
  clear hn hl hs
  go_enter Try.func103, Try.ntmps103
  go_wp2_with fail
  go_loopg [3, 8] n (fun g x i wr => ∃ k : Nat, g = n - k ∧ k ≤ n ∧ i = .int .i64 (k : Int) ∧ OwnR wr w.heap.size x 3 intL 1 (natsI (redsTo l k)) ∧ Below w.heap.size w wr)
  case atStart => exact ⟨0, rfl, by omega, by go_num, World.ownsRow_nil _ _ _ _, Below.refl _ _⟩
  case round =>
    obtain ⟨k, hg, hk, rfl, hO, hW⟩ := hrel
    obtain ⟨o2, cap2, hv2⟩ := own_formT hO
    have HO := hideT' hO
    subst hv2
    by_cases hlt : (k : Int) < (n : Int)
    · obtain ⟨nd, hnd⟩ : ∃ nd, nd = ndAt l k := ⟨_, rfl⟩
      obtain ⟨b, rfl, hb, c0, c1, c2⟩ := (HV.out.below hW).cells (by have := HNN.out; omega) hnd
      have hb' : b < wr.heap.size := hb
      have hsucc := redsTo_succ l k
      have hpl := redsTo_le l k
      rw [← natsI_len] at hpl
      have HW := hideT' hW
      have hsz := hW.size
      have HKD : Hid ((ndAt l k).k = nd.k) := by unfold Hid; rw [hnd]
      clear hb hnd hO hW
      obtain ⟨kd, nm, u⟩ := nd
      simp only at c0 c1 c2 HKD
      have hAl : Below w.heap.size w (wr.alloc (.cells #[.int .i64 kd, .int .i64 nm, .int .i64 u] 57)) := HW.out.alloc hsz _
      have HAL := hideT' hAl
      clear hAl
      by_cases h3 : kd = 3
      · subst h3
        have hk1 := HNX.out k (by omega) HKD.out
        obtain ⟨nd2, hnd2⟩ : ∃ nd2, nd2 = ndAt l (k + 1) := ⟨_, rfl⟩
        obtain ⟨b2, e2, _, d0, _, _⟩ := (HV.out.below HW.out).cells (by have := HNN.out; omega) hnd2
        cases e2
        have HRN : Hid (redN l k = decide (nd2.k = 2)) := by unfold Hid redN; rw [HKD.out, ← hnd2]; simp
        clear hnd2
        obtain ⟨kd2, nm2, u2⟩ := nd2
        simp only at d0 HRN
        have hcast : ((k + 1 : Nat) : Int) = (k : Int) + 1 := by omega
        have HCA := hideT' hcast
        clear hcast
        by_cases h2 : kd2 = 2
        · have HS : Hid (natsI (redsTo l (k + 1)) = natsI (redsTo l k) ++ [(k : Int)]) := by unfold Hid; rw [hsucc, HRN.out, decide_eq_true h2]; simp [natsI]
          clear hsucc
          go_wp2_with (at_builtin; refine wpList_append_own _ rfl _ _ 24 rfl w.heap.size 3 i0 (.int .i64 0) 1 8 Try.underlying24 hi hz0 hz1 hz2 rfl (by decide) _ _ _ rfl ((HO.out.alloc _).alloc _) ⟨wr.heap.size + 1, 0, none⟩ 1 1 [.int .i64 (k : Int)] rfl rfl (by have := cell_one_new (wr.alloc (.cells #[.int .i64 3, .int .i64 nm, .int .i64 u] 57)) (.int .i64 (k : Int)) 3; rw [World.size_alloc] at this; exact this) (oneT_cell _) (by unfold maxLen; omega) (by omega) (by simp; omega) ?_; intro v' w4 hown' hgrow _)
          have hgb : ∀ g, (Value.slice o2 (natsI (redsTo l k)).length cap2).ownBlock = some g → w.heap.size ≤ g := fun g e => (HO.out.lt g e).1
          go_roundg (n - (k + 1))
          case measure => omega
          case rel =>
            refine ⟨k + 1, rfl, by omega, by go_num, ?_, ?_⟩
            · rw [HS.out]
              unfold OwnR
              rw [List.length_append, List.flatMap_append]
              exact hown'
            · exact (HAL.out.alloc (by simp; omega) _).grown hgrow (by simp; omega) (fun k hk => hgb _ hk)
        · have HS : Hid (natsI (redsTo l (k + 1)) = natsI (redsTo l k)) := by unfold Hid; rw [hsucc, HRN.out, decide_eq_false h2]; simp
          clear hsucc
          go_wp2
          go_roundg (n - (k + 1))
          case measure => omega
          case rel => exact ⟨k + 1, rfl, by omega, by go_num, by rw [HS.out]; exact HO.out.alloc _, HAL.out⟩
      · have HS : Hid (natsI (redsTo l (k + 1)) = natsI (redsTo l k)) := by unfold Hid; rw [hsucc]; unfold redN; rw [HKD.out, decide_eq_false h3]; simp
        clear hsucc
        go_wp2
        go_roundg (n - (k + 1))
        case measure => omega
        case rel => exact ⟨k + 1, rfl, by omega, by go_num, by rw [HS.out]; exact HO.out.alloc _, HAL.out⟩
    · have hkn : k = n := by omega
      subst hkn
      clear hO
      go_wp2
      go_ret
      exact ⟨⟨_, rfl, by rw [← HRE.out]; exact HO.out⟩, hW⟩

/-- The answer of both RedexesIn. -/
def RedB (l : List Nd) : Bool := goodS l
def RedL (l : List Nd) : List Int := match readP' l with | none => [] | some t => natsI t.reds
def RedOut (w : World) (l : List Nd) (e : Ending) (w' : World) : Prop :=
  ∃ u, e = .returned (.tuple #[u, .bool (RedB l)]) ∧ OwnR w' w.heap.size u 3 intL 1 (RedL l)
theorem own_keep' {w w' : World} {B n s : Nat} {T : TypeId} {v : Value} {xs : List Value} {row : Option Nat} (h : w.ownsRow B T s v n xs) (hg : w.grownBy w' row) (hr : ∀ g, v.ownBlock = some g → some g ≠ row) : w'.ownsRow B T s v n xs :=
  own_keep h (fun g e => hg.block g (h.lt g e).2 (hr g e))
theorem readP'_good {l : List Nd} {t : Lm} (h : readP' l = some t) : l = t.flat 0 (-1) ∧ t.sz ≤ 150 := by
  have := (readP'_iff l t).1 h
  exact ⟨this.1, (Lm.good_sz this.2).1⟩
theorem RedL_len (l : List Nd) : (RedL l).length ≤ 1048576 := by
  unfold RedL
  split
  · simp
  · next t h =>
    have h1 := (readP'_good h).2
    rw [natsI_len]
    unfold Lm.reds
    rw [List.length_map]
    have h2 := List.length_filter_le (fun x : Spot => x.t.isRed) (t.walk 0 (-1) 0)
    rw [Lm.walk_len] at h2
    omega
end Go.Proofs.Ytbnagagdboeedaa

/-
  What both ReduceAt answer.
-/
namespace Go.Proofs.Ytbnagagdboeedaa
open Go.RowKit BL
set_option linter.unusedVariables false

theorem Lm.walk_subAt : ∀ (t : Lm) (a : Nat) (u : Int) (m : Nat) (x : Spot), x ∈ t.walk a u m → a ≤ x.at_ ∧ x.at_ < a + t.sz ∧ t.subAt (x.at_ - a) = some x.t
  | .var n, a, u, m, x, h => by
    simp only [Lm.walk, List.mem_singleton] at h
    subst h
    exact ⟨Nat.le_refl _, by simp [Lm.sz], by simp [Lm.subAt]⟩
  | .lam t, a, u, m, x, h => by
    rw [Lm.walk] at h
    rcases List.mem_cons.1 h with rfl | h
    · exact ⟨Nat.le_refl _, by simp [Lm.sz], by simp [Lm.subAt]⟩
    · obtain ⟨h1, h2, h3⟩ := Lm.walk_subAt t _ _ _ x h
      refine ⟨by omega, by simp only [Lm.sz]; omega, ?_⟩
      rw [show x.at_ - a = (x.at_ - (a + 1)) + 1 by omega, Lm.subAt]; exact h3
  | .app s t, a, u, m, x, h => by
    rw [Lm.walk] at h
    rcases List.mem_cons.1 h with rfl | h
    · exact ⟨Nat.le_refl _, by simp [Lm.sz], by simp [Lm.subAt]⟩
    · rcases List.mem_append.1 h with h | h
      · obtain ⟨h1, h2, h3⟩ := Lm.walk_subAt s _ _ _ x h
        refine ⟨by omega, by simp only [Lm.sz]; omega, ?_⟩
        rw [show x.at_ - a = (x.at_ - (a + 1)) + 1 by omega, Lm.subAt, if_pos (by omega)]; exact h3
      · obtain ⟨h1, h2, h3⟩ := Lm.walk_subAt t _ _ _ x h
        refine ⟨by omega, by simp only [Lm.sz]; omega, ?_⟩
        rw [show x.at_ - a = (x.at_ - (a + 1)) + 1 by omega, Lm.subAt, if_neg (by omega), show x.at_ - (a + 1) - s.sz = x.at_ - (a + 1 + s.sz) by omega]; exact h3
theorem reds_sub {t : Lm} {k : Nat} (h : k ∈ t.reds) : k < t.sz ∧ ∃ s, t.subAt k = some s ∧ s.isRed = true := by
  unfold Lm.reds at h
  obtain ⟨x, hx, rfl⟩ := List.mem_map.1 h
  obtain ⟨hx1, hx2⟩ := List.mem_filter.1 hx
  obtain ⟨h1, h2, h3⟩ := Lm.walk_subAt t 0 (-1) 0 x hx1
  exact ⟨by omega, x.t, by simpa using h3, hx2⟩
theorem natsI_mem {l : List Nat} {k : Int} (h : k ∈ natsI l) : ∃ n : Nat, k = (n : Int) ∧ n ∈ l := by
  unfold natsI at h
  obtain ⟨n, hn, rfl⟩ := List.mem_map.1 h
  exact ⟨n, rfl, hn⟩
theorem InR.int {w : World} {v : Value} {l : List Int} (h : InR w v intL 1 l) : ∃ o cap, v = .slice o l.length cap ∧ ∀ i x, l[i]? = some x → ∃ g, o = some ⟨g, 0, none⟩ ∧ g < w.heap.size ∧ w.cell? ⟨g, i, none⟩ = some (.int .i64 x) := by
  obtain ⟨o, cap, e, hin⟩ := h
  refine ⟨o, cap, e, fun i x hi => ?_⟩
  have hil := (List.getElem?_eq_some_iff.1 hi).1
  obtain ⟨g, ho, hg, hc⟩ := hin (by intro e; rw [e] at hil; simp at hil)
  refine ⟨g, ho, hg, ?_⟩
  have := hc i 0 (.int .i64 x) hil (by rw [List.getD, hi]; rfl)
  simpa using this
theorem beta_szle (s : Lm) : s.sz ≤ 400 → s.beta.sz ≤ 160000 + s.sz := fun h => by have := (Lm.beta_sz s h).1; omega
/-- Reducing, where the term is not too great. -/
def betaS (s : Lm) : Lm := if s.sz ≤ 400 then s.beta else s
theorem betaS_sz (s : Lm) : (betaS s).sz ≤ 160000 + s.sz := by
  unfold betaS
  split
  · next h => exact beta_szle s h
  · omega
theorem chgAt_betaS : ∀ (t : Lm) (k : Nat), t.sz ≤ 400 → Lm.chgAt betaS t k = Lm.chgAt Lm.beta t k
  | .var n, 0, h => by rw [Lm.chgAt, Lm.chgAt, betaS, if_pos h]
  | .var n, k + 1, h => by rw [Lm.chgAt, Lm.chgAt]
  | .lam t, 0, h => by rw [Lm.chgAt, Lm.chgAt, betaS, if_pos h]
  | .lam t, k + 1, h => by simp only [Lm.sz] at h; rw [Lm.chgAt, Lm.chgAt, chgAt_betaS t k (by omega)]
  | .app s t, 0, h => by rw [Lm.chgAt, Lm.chgAt, betaS, if_pos h]
  | .app s t, k + 1, h => by simp only [Lm.sz] at h; rw [Lm.chgAt, Lm.chgAt, chgAt_betaS s k (by omega), chgAt_betaS t (k - s.sz) (by omega)]
theorem reducedS_any : ChgOk 67 Lm.isRed betaS 400 := fun s b P w hT hp hs hb => by
  have := reduced_any s b P w hT hp hs hb
  rw [show betaS s = s.beta by unfold betaS; rw [if_pos hs]]
  exact this
/-- What changedAt makes of a redex. -/
theorem changedRed_any (t s : Lm) (b k : Nat) (P : Nat → Prop) (w : World) (hT : TrIn w P t b) (hsub : t.subAt k = some s) (hred : s.isRed = true) (hsz : t.sz ≤ 400) (hbd : t.bd) :
    Calls Try.prog 66 #[.pointer (some ⟨b, 0, none⟩), .int .i64 (k : Int), .func (.func 67) #[] #[]] w fun e w' => (∃ b', e = .returned (.pointer (some ⟨b', 0, none⟩)) ∧ TrIn w' (fun x => P x ∨ w.heap.size ≤ x) (Lm.chgAt Lm.beta t k) b') ∧ Below w.heap.size w w' := by
  have := changedAt_all 67 Lm.isRed betaS 400 160000 call_reduced betaS_sz (by omega) (by omega) reducedS_any t.sz t (Nat.le_refl _) s b k P w hT hsub hred hsz hbd
  rw [chgAt_betaS t k hsz] at this
  exact this
theorem chgAt_beta_sz (t : Lm) (k : Nat) (h : t.sz ≤ 400) : (Lm.chgAt Lm.beta t k).sz ≤ 160400 := by
  rw [← chgAt_betaS t k h]
  have := chgAt_szle betaS 160000 betaS_sz t k
  omega
def RdT (l : List Nd) (k : Int) : Option Lm := match readP' l with
  | some t => if k ∈ natsI t.reds then some (Lm.chgAt Lm.beta t k.toNat) else none
  | none => none
theorem RdT_l {l : List Nd} {k : Int} (h : readP' l = none) : RdT l k = none := by unfold RdT; rw [h]
theorem RdT_no {l : List Nd} {k : Int} {t : Lm} (h1 : readP' l = some t) (h : k ∉ natsI t.reds) : RdT l k = none := by unfold RdT; rw [h1]; simp [h]
theorem RdT_ok {l : List Nd} {n : Nat} {t : Lm} (h1 : readP' l = some t) (h : (n : Int) ∈ natsI t.reds) : RdT l (n : Int) = some (Lm.chgAt Lm.beta t n) := by unfold RdT; rw [h1]; simp [h]
theorem reds_len (t : Lm) : (natsI t.reds).length ≤ t.sz := by
  rw [natsI_len]
  unfold Lm.reds
  rw [List.length_map]
  have h2 := List.length_filter_le (fun x : Spot => x.t.isRed) (t.walk 0 (-1) 0)
  rw [Lm.walk_len] at h2
  exact h2
end Go.Proofs.Ytbnagagdboeedaa

/-
  What both NormalTerm answer.
-/
namespace Go.Proofs.Ytbnagagdboeedaa
open Go.RowKit BL
set_option linter.unusedVariables false

/-- The normal form, by at most so many steps, and how many. -/
def Lm.norm : Nat → Lm → Option (Lm × Nat)
  | 0, t => if t.reds = [] then some (t, 0) else none
  | f + 1, t => match t.reds with
    | [] => some (t, 0)
    | k :: _ => if (Lm.chgAt Lm.beta t k).good then (Lm.norm f (Lm.chgAt Lm.beta t k)).map (fun p => (p.1, p.2 + 1)) else none
theorem norm_nil {f : Nat} {t : Lm} (h : t.reds = []) : Lm.norm f t = some (t, 0) := by
  cases f with
  | zero => rw [Lm.norm, if_pos h]
  | succ f => rw [Lm.norm, h]
theorem norm_zero {t : Lm} (h : t.reds ≠ []) : Lm.norm 0 t = none := by rw [Lm.norm, if_neg h]
theorem norm_bad {f k : Nat} {ks : List Nat} {t : Lm} (h : t.reds = k :: ks) (hg : (Lm.chgAt Lm.beta t k).good = false) : Lm.norm f t = none := by
  cases f with
  | zero => exact norm_zero (by rw [h]; simp)
  | succ f => rw [Lm.norm, h]; simp [hg]
theorem norm_step {f k : Nat} {ks : List Nat} {t : Lm} (h : t.reds = k :: ks) (hg : (Lm.chgAt Lm.beta t k).good = true) : Lm.norm (f + 1) t = (Lm.norm f (Lm.chgAt Lm.beta t k)).map (fun p => (p.1, p.2 + 1)) := by
  rw [Lm.norm, h]; simp [hg]
/-- Steps that were made already. -/
def more (j : Nat) (o : Option (Lm × Nat)) : Option (Lm × Nat) := o.map (fun p => (p.1, p.2 + j))
theorem more_zero (o : Option (Lm × Nat)) : more 0 o = o := by cases o <;> rfl
theorem more_step (j : Nat) (o : Option (Lm × Nat)) : more j (o.map (fun p => (p.1, p.2 + 1))) = more (j + 1) o := by cases o <;> simp [more]; omega
def NmO (l : List Nd) (fuel : Int) : Option (Lm × Nat) := match readP' l with
  | some t => if 0 ≤ fuel ∧ fuel ≤ 1000 then Lm.norm fuel.toNat t else none
  | none => none
def NmT (l : List Nd) (fuel : Int) : Option Lm := (NmO l fuel).map Prod.fst
def NmTN (l : List Nd) (fuel : Int) : Int := match NmO l fuel with
  | some p => (p.2 : Int)
  | none => 0
def NmOut (w : World) (l : List Nd) (fuel : Int) (e : Ending) (w' : World) : Prop := ∃ u, e = .returned (.tuple #[u, .int .i64 (NmTN l fuel), .bool (toldB (NmT l fuel))]) ∧ OwnR w' w.heap.size u 57 termL 3 (toldL (NmT l fuel))
theorem NmOut.bad {w w' : World} {l : List Nd} {fuel : Int} (h : NmO l fuel = none) : NmOut w l fuel (.returned (.tuple #[.slice none 0 0, .int .i64 0, .bool false])) w' := by
  refine ⟨.slice none 0 0, by unfold NmTN NmT; rw [h]; rfl, by unfold NmT; rw [h]; exact World.ownsRow_nil _ _ _ _⟩
theorem NmOut.good {w w1 w' : World} {l : List Nd} {fuel : Int} {t : Lm} {j : Nat} {u : Value} (h : NmO l fuel = some (t, j)) (hg : t.good = true) (hO : OwnR w' w1.heap.size u 57 termL 3 (tri (t.flat 0 (-1)))) (hs : w.heap.size ≤ w1.heap.size) : NmOut w l fuel (.returned (.tuple #[u, .int .i64 (j : Int), .bool true])) w' := by
  refine ⟨u, by unfold NmTN NmT; rw [h]; simp [toldB, hg], ?_⟩
  unfold NmT
  rw [h]
  simp only [Option.map_some, toldL, hg, if_true]
  exact ⟨hO.1, hO.2.imp id fun ⟨g, cap, cur, h1, h2, h3⟩ => ⟨g, cap, cur, h1, Nat.le_trans hs h2, h3⟩⟩
theorem NmO_l {l : List Nd} {k : Int} (h : readP' l = none) : NmO l k = none := by unfold NmO; rw [h]
theorem NmO_k {l : List Nd} {k : Int} (h : ¬ (0 ≤ k ∧ k ≤ 1000)) : NmO l k = none := by unfold NmO; cases readP' l <;> simp [h]
theorem NmO_ok {l : List Nd} {F : Nat} {t : Lm} (h1 : readP' l = some t) (h : F ≤ 1000) : NmO l (F : Int) = more 0 (Lm.norm F t) := by unfold NmO; rw [h1, more_zero]; simp; omega
theorem own_first {w : World} {B : Nat} {u : Value} {k : Nat} {ks : List Nat} (h : OwnR w B u 3 intL 1 (natsI (k :: ks))) : ∃ g c, u = .slice (some ⟨g, 0, none⟩) (ks.length + 1) c ∧ g < w.heap.size ∧ w.cell? ⟨g, 0, none⟩ = some (.int .i64 (k : Int)) := by
  obtain ⟨o, cap, e, hc⟩ := (OwnR.inR (l := natsI (k :: ks)) h intL_len).int
  obtain ⟨g, ho, hg, hcell⟩ := hc 0 (k : Int) rfl
  subst ho
  exact ⟨g, cap, by rw [e, natsI_len]; rfl, hg, hcell⟩
set_option maxHeartbeats 4000000 in
set_option maxRecDepth 100000 in
theorem implNormalTerm_any (l : List Nd) (fuel : Int) (v : Value) (w : World) (hv : NdIn w v l) (hl : l.length ≤ 1048576) :
    Calls Try.prog 30 #[v, .int .i64 fuel] w fun e w' => NmOut w l fuel e w' ∧ Below w.heap.size w w' := by
  have HC := hideT' (readTree_any l v w hv hl)
  clear hv
  go_enter Try.func30, Try.ntmps30
  go_wp2_with fail
  refine HC.out.mono ?_
  rintro e w1 ⟨hans, hB1⟩
  have HB1 := hideT' hB1
  clear hB1
  rcases hans with ⟨p, rfl, hn⟩ | ⟨t, b, rfl, hr, hT⟩
  · have HN := hideT' (NmO_l (k := fuel) hn)
    clear hn
    go_wp2
    go_ret3
    exact ⟨NmOut.bad HN.out, HB1.out⟩
  · by_cases hk : 0 ≤ fuel ∧ fuel ≤ 1000
    · obtain ⟨F, rfl⟩ : ∃ F : Nat, fuel = (F : Int) := ⟨fuel.toNat, by omega⟩
      have hF : F ≤ 1000 := by omega
      have HN := hideT' (NmO_ok hr hF)
      have f1 := readP'_facts hr
      have HC2 := hideT' (redexesIn_any t b _ w1 hT (by omega))
      have HT0 := hideT' (And.intro hT f1.2.2.2.2)
      have hf0 : ¬ (F : Int) < 0 := by omega
      have hf1 : ¬ (1000 : Int) < (F : Int) := by omega
      clear hT hr f1 hk
      go_wp2_with fail
      refine HC2.out.mono ?_
      rintro e w2 ⟨⟨u, rfl, hO⟩, hB2⟩
      have HS0 : Hid (TrIn w2 (fun _ => True) t b ∧ t.good = true ∧ OwnR w2 w1.heap.size u 3 intL 1 (natsI t.reds) ∧ Below w.heap.size w w2) := ⟨TrIn.keep (w := w1) hB2.size (fun x _ hx => hB2.block x hx) (fun _ _ _ => trivial) HT0.out.1, HT0.out.2, hO, HB1.out.trans (hB2.mono HB1.out.size)⟩
      clear hO hB2
      go_wp2_with fail
      go_loopg [7, 9, 10] (F + 1) (fun g tv sv rv wr => ∃ (T : Lm) (bt j : Nat) (ru : Value) (Bx : Nat), g = F + 1 - j ∧ j ≤ F ∧ tv = .pointer (some ⟨bt, 0, none⟩) ∧ sv = .int .i64 (j : Int) ∧ rv = ru ∧ Hid (TrIn wr (fun _ => True) T bt ∧ T.good = true ∧ OwnR wr Bx ru 3 intL 1 (natsI T.reds) ∧ Below w.heap.size w wr) ∧ Hid (NmO l (F : Int) = more j (Lm.norm (F - j) T)))
      case atStart => exact ⟨t, b, 0, u, w1.heap.size, rfl, by omega, rfl, rfl, rfl, HS0, HN⟩
      case round =>
        obtain ⟨T, bt, j, ru, Bx, hg, hj, rfl, rfl, rfl, HS, HNN⟩ := hrel
        obtain ⟨hTr, hgood, hOr, hBr⟩ := HS.out
        have hgs := Lm.good_sz hgood
        cases hreds : T.reds with
        | nil =>
          have HE : Hid (NmO l (F : Int) = some (T, j)) := by unfold Hid; rw [HNN.out, norm_nil hreds]; simp [more]
          rw [hreds] at hOr
          obtain ⟨o, c, hru⟩ := own_formT hOr
          simp only [natsI, List.map_nil, List.length_nil] at hru
          subst hru
          have HC3 := hideT' (tellTree_any T bt _ wr hTr (by omega))
          have HG := hideT' (And.intro hgood hBr)
          clear hTr hgood hOr hBr hreds HS hgs
          go_wp2_with fail
          refine HC3.out.mono ?_
          rintro e w5 ⟨hT5, hB5⟩
          obtain ⟨u5, he5, hO5⟩ := hT5
          rw [HG.out.1] at he5 hO5
          subst he5
          have HF : Hid (NmOut w l (F : Int) (.returned (.tuple #[u5, .int .i64 (j : Int), .bool true])) w5 ∧ Below w.heap.size w w5) := ⟨NmOut.good HE.out HG.out.1 (by simpa using hO5) HG.out.2.size, HG.out.2.trans (hB5.mono HG.out.2.size)⟩
          clear hO5 hB5
          go_wp2
          go_ret3
          exact HF.out
        | cons k ks =>
          rw [hreds] at hOr
          obtain ⟨gr, cr, hru, hgr, hcr⟩ := own_first hOr
          subst hru
          obtain ⟨hkl, s, hs1, hs2⟩ := reds_sub (t := T) (k := k) (by rw [hreds]; simp)
          have HC3 := hideT' (changedRed_any T s bt k _ wr hTr hs1 hs2 (by omega) (Lm.ok_bd hgs.2.2))
          have HSZ := hideT' (chgAt_beta_sz T k (by omega))
          have HRD := hideT' hreds
          have HBR := hideT' hBr
          have hlp : (0 : Int) < ((ks.length + 1 : Nat) : Int) := by omega
          obtain ⟨nr, hnr⟩ : ∃ nr, nr = ks.length + 1 := ⟨_, rfl⟩
          rw [← hnr] at hlp ⊢
          clear hTr hgood hOr hBr hreds HS hs1 hs2 hnr
          go_wp2_with fail
          refine HC3.out.mono ?_
          rintro e w5 ⟨⟨b5, rfl, hT5⟩, hB5⟩
          obtain ⟨T', hT'⟩ : ∃ T', T' = Lm.chgAt Lm.beta T k := ⟨_, rfl⟩
          rw [← hT'] at hT5 HSZ
          have HTT := hideT' hT'
          have HB5 : Hid (Below w.heap.size w w5) := HBR.out.trans (hB5.mono HBR.out.size)
          have HT5 : Hid (TrIn w5 (fun _ => True) T' b5) := TrIn.mono (fun _ _ _ => trivial) hT5
          clear hT5 hB5 hT'
          by_cases hfl : (F : Int) < (j : Int) + 1
          · have HE : Hid (NmO l (F : Int) = none) := by
              unfold Hid
              rw [HNN.out, show F - j = 0 by omega, norm_zero (by rw [HRD.out]; simp)]; rfl
            go_wp2
            go_ret3
            exact ⟨NmOut.bad HE.out, HB5.out⟩
          · have HC4 := hideT' (isGood_any T' b5 _ w5 HT5.out (by have := HSZ.out; omega))
            obtain ⟨q, hq⟩ : ∃ q, q = T'.good := ⟨_, rfl⟩
            rw [← hq] at HC4
            have HQ := hideT' hq
            clear hq
            go_wp2_with fail
            refine HC4.out.mono ?_
            rintro e w6 ⟨rfl, hB6⟩
            have HB6 : Hid (Below w.heap.size w w6) := HB5.out.trans (hB6.mono HB5.out.size)
            have HT6 : Hid (TrIn w6 (fun _ => True) T' b5) := TrIn.below hB6 HT5.out
            clear hB6
            cases q with
            | false =>
              have HE : Hid (NmO l (F : Int) = none) := by
                unfold Hid
                rw [HNN.out, norm_bad HRD.out (by rw [← HTT.out]; exact HQ.out.symm)]; rfl
              go_wp2
              go_ret3
              exact ⟨NmOut.bad HE.out, HB6.out⟩
            | true =>
              have HE : Hid (NmO l (F : Int) = more (j + 1) (Lm.norm (F - (j + 1)) T')) := by
                unfold Hid
                rw [HNN.out, show F - j = F - (j + 1) + 1 by omega, norm_step HRD.out (by rw [← HTT.out]; exact HQ.out.symm), more_step, ← HTT.out]
              have HC5 := hideT' (redexesIn_any T' b5 _ w6 HT6.out (by have := HSZ.out; omega))
              go_wp2_with fail
              refine HC5.out.mono ?_
              rintro e w7 ⟨⟨u7, rfl, hO7⟩, hB7⟩
              have HS7 : Hid (TrIn w7 (fun _ => True) T' b5 ∧ T'.good = true ∧ OwnR w7 w6.heap.size u7 3 intL 1 (natsI T'.reds) ∧ Below w.heap.size w w7) := ⟨TrIn.below hB7 HT6.out, HQ.out.symm, hO7, HB6.out.trans (hB7.mono HB6.out.size)⟩
              clear hO7 hB7
              go_wp2
              go_roundg (F + 1 - (j + 1))
              case measure => omega
              case rel => exact ⟨T', b5, j + 1, u7, w6.heap.size, rfl, by omega, rfl, by go_num, rfl, HS7, HE⟩
    · have HN := hideT' (NmO_k (l := l) hk)
      clear hr hT
      by_cases h0 : fuel < 0
      · go_wp2
        go_ret3
        exact ⟨NmOut.bad HN.out, HB1.out⟩
      · have h9 : 1000 < fuel := by omega
        go_wp2
        go_ret3
        exact ⟨NmOut.bad HN.out, HB1.out⟩
theorem Lm.kd_pos (t : Lm) : t.kd ≠ 0 := by cases t <;> simp [Lm.kd]
/-- A block that holds an empty tree is none of a tree's. -/
theorem LcIn.avoid {w : World} {P : Nat → Prop} {nb : Nat} (hc : w.cell? ⟨nb, 0, none⟩ = some (.int .i64 0)) : ∀ {t : Lm} {z : Value}, LcIn w P t z → LcIn w (fun x => P x ∧ x ≠ nb) t z
  | .var n, z, h => h
  | .lam t, z, h => by
    obtain ⟨g, c, z1, e, hg, ⟨c0, c1, c2⟩, h1⟩ := h
    exact ⟨g, c, z1, e, ⟨hg.1, hg.2, fun e => by rw [e, hc] at c0; injection c0 with c0; injection c0 with _ c0; exact t.kd_pos c0.symm⟩, ⟨c0, c1, c2⟩, LcIn.avoid hc h1⟩
  | .app s t, z, h => by
    obtain ⟨g, c, z1, z2, e, hg, ⟨c0, c1, c2⟩, hcc, h1, h2⟩ := h
    exact ⟨g, c, z1, z2, e, ⟨hg.1, hg.2, fun e => by rw [e, hc] at c0; injection c0 with c0; injection c0 with _ c0; exact s.kd_pos c0.symm⟩, ⟨c0, c1, c2⟩, hcc, LcIn.avoid hc h1, LcIn.avoid hc h2⟩
/-- The answer of lcNormal. -/
def LnOut (B : Nat) (o : Option (Lm × Nat)) (e : Ending) (w' : World) : Prop := match o with
  | none => e = .returned (.tuple #[.slice none 0 0, .int .i64 0, .bool false])
  | some p => ∃ u, e = .returned (.tuple #[u, .int .i64 (p.2 : Int), .bool true]) ∧ OwnR w' B u 57 termL 3 (tri (p.1.flat 0 (-1)))
theorem norm_good : ∀ (f : Nat) (t : Lm) (p : Lm × Nat), t.good = true → Lm.norm f t = some p → p.1.good = true
  | 0, t, p, hg, h => by
    rw [Lm.norm] at h
    split at h
    · injection h with h; subst h; exact hg
    · cases h
  | f + 1, t, p, hg, h => by
    rw [Lm.norm] at h
    split at h
    · injection h with h; subst h; exact hg
    · next k ks hk =>
      split at h
      · next hgd =>
        cases hn : Lm.norm f (Lm.chgAt Lm.beta t k) with
        | none => rw [hn] at h; cases h
        | some q =>
          rw [hn] at h
          injection h with h
          subst h
          exact norm_good f _ q hgd hn
      · cases h
set_option maxHeartbeats 8000000 in
set_option maxRecDepth 100000 in
theorem lcNormal_any (t0 : Lm) (F : Nat) (v0 : Value) (B0 : Nat) (w : World) (hF : F ≤ 1000) (hg : t0.good = true) (hB0 : B0 ≤ w.heap.size) (hv : OwnR w B0 v0 57 termL 3 (tri (t0.flat 0 (-1)))) :
    Calls Try.prog 64 #[v0, .int .i64 (F : Int)] w fun e w' => LnOut B0 (Lm.norm F t0) e w' ∧ Below w.heap.size w w' := by
  have hz := zero_lcT.1
  have HS0 := hideT' (And.intro hv (And.intro hg (Below.refl w.heap.size w)))
  have HN : Hid (Lm.norm F t0 = more 0 (Lm.norm (F - 0) t0)) := by unfold Hid; rw [more_zero]; rfl
  clear hv hg
  go_enter Try.func64, Try.ntmps64
  go_wp2_with fail
  go_loopg [0, 7] (F + 1) (fun g vv sv wr => ∃ (T : Lm) (j : Nat) (v' : Value), g = F + 1 - j ∧ j ≤ F ∧ vv = v' ∧ sv = .int .i64 (j : Int) ∧ Hid (OwnR wr B0 v' 57 termL 3 (tri (T.flat 0 (-1))) ∧ T.good = true ∧ Below w.heap.size w wr) ∧ Hid (Lm.norm F t0 = more j (Lm.norm (F - j) T)))
  case atStart => exact ⟨t0, 0, v0, rfl, by omega, rfl, by go_num, HS0, HN⟩
  case round =>
    obtain ⟨t, j, v, hg, hj, hvv, rfl, HS, HNN⟩ := hrel
    have hvv' := hvv.symm
    clear hvv
    subst hvv'
    have hgs := Lm.good_sz HS.out.2.1
    have hnd : NdIn wr v (t.flat 0 (-1)) := OwnR.inR (l := tri (t.flat 0 (-1))) HS.out.1 termL_len
    have HC := hideT' (lcRedexes_any t v wr hnd (by omega))
    have HND := hideT' hnd
    clear hnd
    go_wp2_with fail
    refine HC.out.mono ?_
    rintro e W1 ⟨⟨u, rfl, hO⟩, hB1⟩
    have HB1 : Hid (Below w.heap.size w W1) := HS.out.2.2.trans (hB1.mono HS.out.2.2.size)
    have HV1 : Hid (∀ w', Below W1.heap.size W1 w' → NdIn w' v (t.flat 0 (-1))) := fun w' hw' => (HND.out.below hB1).below hw'
    have HO1 : Hid (OwnR W1 B0 v 57 termL 3 (tri (t.flat 0 (-1)))) := OwnR.below (l := tri (t.flat 0 (-1))) HS.out.1 hB1 (Nat.le_refl _)
    clear hB1
    cases hreds : t.reds with
    | nil =>
      rw [hreds] at hO
      obtain ⟨o, c, hu⟩ := own_formT hO
      simp only [natsI, List.map_nil, List.length_nil] at hu
      subst hu
      have HE : Hid (Lm.norm F t0 = some (t, j)) := by unfold Hid; rw [HNN.out, norm_nil hreds]; simp [more]
      clear hO hreds
      go_wp2
      go_ret3
      exact ⟨by rw [HE.out]; exact ⟨v, rfl, HO1.out⟩, HB1.out⟩
    | cons r0 ks =>
      rw [hreds] at hO
      obtain ⟨gr, cr, hru, hgr, hcr⟩ := own_first hO
      subst hru
      have HRD := hideT' hreds
      obtain ⟨nr, hnr⟩ : ∃ nr, nr = ks.length + 1 := ⟨_, rfl⟩
      have hnz : ¬ (nr : Int) = 0 := by omega
      have hnb : ((nr : Int) == 0) = false := by simp only [beq_eq_false_iff_ne]; exact hnz
      have hn1 : (0 : Int) < (nr : Int) := by omega
      have hn2 : 0 < nr := by omega
      rw [← hnr]
      by_cases hjf : (j : Int) = (F : Int)
      · have HE : Hid (Lm.norm F t0 = none) := by unfold Hid; rw [HNN.out, show F - j = 0 by omega, norm_zero (by rw [hreds]; simp)]; rfl
        have hjb : ((j : Int) == (F : Int)) = true := by simp only [beq_iff_eq]; exact hjf
        clear hO hreds hnr
        go_wp2
        go_ret3
        exact ⟨by rw [HE.out]; exact rfl, HB1.out⟩
      · have hjb : ((j : Int) == (F : Int)) = false := by simp only [beq_eq_false_iff_ne]; exact hjf
        obtain ⟨hkl, s, hs1, hs2⟩ := reds_sub (t := t) (k := r0) (by rw [hreds]; simp)
        have HG : Hid (t.bd ∧ t.sz ≤ 400 ∧ r0 ≤ 1000 ∧ ∃ s, t.subAt r0 = some s ∧ s.isRed = true) := ⟨Lm.ok_bd hgs.2.2, by omega, by omega, s, hs1, hs2⟩
        have HRP : Hid (readP' (t.flat 0 (-1)) = some t) := (readP'_iff _ _).2 ⟨rfl, HS.out.2.1⟩
        clear hO hreds hnr hs1 hs2 hkl hgs
        go_wp2_with fail
        have S0 : ∀ w', Below W1.drew.heap.size W1.drew w' → w'.cell? ⟨gr, 0, none⟩ = some (.int .i64 (r0 : Int)) := fun w' hw' => by rw [hw'.cell (p := ⟨gr, 0, none⟩) hgr]; exact hcr
        refine float_begin (fun w' => w'.cell? ⟨gr, 0, none⟩ = some (.int .i64 (r0 : Int))) 9 9 54 #[.int .i64 0, .int .i64 0, .slice none 0 0] W1.heap.size 11 (by kernel_rfl) rfl ?_
        refine float_val 0 26 rfl rfl (by kernel_rfl) (by kernel_rfl) (by kernel_rfl) (by kernel_rfl) (by kernel_rfl) noPanic_put (fun _ => rfl) (by decide) (by decide) (v) (fun _ _ => by go_simp) (fun _ => fun _ _ => by go_simp) (S0) ?_
        simp only [Act.put, List.setIfInBounds_toArray, List.set_cons_zero, List.set_cons_succ]
        refine float_val 2 28 rfl rfl (by kernel_rfl) (by kernel_rfl) (by kernel_rfl) (by kernel_rfl) (by kernel_rfl) noPanic_put (fun _ => rfl) (by decide) (by decide) (.slice (some ⟨gr, 0, none⟩) nr cr) (fun _ _ => by go_simp) (fun _ => fun _ _ => by go_simp) (S0) ?_
        simp only [Act.put, List.setIfInBounds_toArray, List.set_cons_zero, List.set_cons_succ]
        refine float_val 3 29 rfl rfl (by kernel_rfl) (by kernel_rfl) (by kernel_rfl) (by kernel_rfl) (by kernel_rfl) noPanic_put (fun _ => rfl) (by decide) (by decide) (.pointer (some ⟨gr, 0, none⟩)) (fun _ _ => by go_simp) (fun _ => fun _ _ => by go_simp) (S0) ?_
        simp only [Act.put, List.setIfInBounds_toArray, List.set_cons_zero, List.set_cons_succ]
        refine float_val 4 30 rfl rfl (by kernel_rfl) (by kernel_rfl) (by kernel_rfl) (by kernel_rfl) (by kernel_rfl) noPanic_put (fun _ => rfl) (by decide) (by decide) (.int .i64 (r0 : Int)) (fun w' h => by have c := h; go_simp) (fun _ w' h => by have c := h; go_simp) (S0) ?_
        simp only [Act.put, List.setIfInBounds_toArray, List.set_cons_zero, List.set_cons_succ]
        refine float_call 1 27 rfl rfl rfl rfl rfl (fun _ => rfl) (fun _ => rfl) (by kernel_rfl) (by kernel_rfl) (by decide) (by decide) hz (Nat.le_refl _) 52 #[v, .int .i64 0] (fun _ => by go_simp) (fun _ _ => by go_simp) (S0) _ (fun w hw => lcTree_whole (t.flat 0 (-1)) t v w (HV1.out w ⟨hw.os, hw.tape, hw.output, hw.size, hw.block⟩) HRP.out) ?_
        rintro wa e wb hwa ⟨⟨z5, rfl, hz5⟩, hwb⟩
        have hwa : Below W1.heap.size W1 wa := ⟨hwa.os, hwa.tape, hwa.output, hwa.size, hwa.block⟩
        have hsa := hwa.size
        have hsb := hwb.size
        have hw1b : Below W1.heap.size W1 wb := hwa.trans (hwb.mono hwa.size)
        have S1 : ∀ w', Below wb.heap.size wb w' → w'.cell? ⟨gr, 0, none⟩ = some (.int .i64 (r0 : Int)) := fun w' hw' => by rw [(hw1b.trans (hw'.mono hw1b.size)).cell (p := ⟨gr, 0, none⟩) hgr]; exact hcr
        refine ⟨_, rfl, hwb, ?_⟩
        simp only [Act.put, List.setIfInBounds_toArray, List.set_cons_zero, List.set_cons_succ]
        refine float_call 5 31 rfl rfl rfl rfl rfl (fun _ => rfl) (fun _ => rfl) (by kernel_rfl) (by kernel_rfl) (by decide) (by decide) hz (hw1b.size) 104 #[.agg (lcC t.kd t.nm z5), .int .i64 (r0 : Int)] (fun _ => by go_simp) (fun _ _ => by go_simp) (S1) _ (fun w hw => lcAt_all t.sz t (Nat.le_refl _) r0 z5 _ w (LcIn.below hw hz5) HG.out.1 HG.out.2.1 HG.out.2.2.1 (fun _ => HG.out.2.2.2)) ?_
        rintro wc e wd hwc ⟨⟨z7, rfl, hz7⟩, hwd⟩
        have hsc := hwc.size
        have hsd := hwd.size
        have hw1d : Below W1.heap.size W1 wd := (hw1b.trans (hwc.mono hw1b.size)).trans (hwd.mono (by omega))
        have S2 : ∀ w', Below wd.heap.size wd w' → w'.cell? ⟨gr, 0, none⟩ = some (.int .i64 (r0 : Int)) := fun w' hw' => by rw [(hw1d.trans (hw'.mono hw1d.size)).cell (p := ⟨gr, 0, none⟩) hgr]; exact hcr
        obtain ⟨o7, c7, hzz7⟩ := hz7.form
        subst hzz7
        obtain ⟨T, hTe⟩ : ∃ T, T = Lm.chgAt Lm.beta t r0 := ⟨_, rfl⟩
        rw [← hTe] at hz7 ⊢
        have HTE := hideT' hTe
        clear hTe
        refine ⟨_, rfl, hwd, ?_⟩
        simp only [Act.put, List.setIfInBounds_toArray, List.set_cons_zero, List.set_cons_succ]
        refine float_val 6 25 rfl rfl (by kernel_rfl) (by kernel_rfl) (by kernel_rfl) (by kernel_rfl) (by kernel_rfl) noPanic_put (fun _ => rfl) (by decide) (by decide) (.tuple #[.agg (lcC T.kd T.nm (.slice o7 T.kids.length c7)), .int .i64 (leftK t r0)]) (fun _ _ => by go_simp) (fun _ => fun _ _ => by go_simp) (S2) ?_
        simp only [Act.put, List.setIfInBounds_toArray, List.set_cons_zero, List.set_cons_succ]
        refine float_val 7 32 rfl rfl (by kernel_rfl) (by kernel_rfl) (by kernel_rfl) (by kernel_rfl) (by kernel_rfl) noPanic_put (fun _ => rfl) (by decide) (by decide) (.agg (lcC T.kd T.nm (.slice o7 T.kids.length c7))) (fun _ _ => by go_simp) (fun _ => fun _ _ => by go_simp) (S2) ?_
        simp only [Act.put, List.setIfInBounds_toArray, List.set_cons_zero, List.set_cons_succ]
        refine float_val 8 33 rfl rfl (by kernel_rfl) (by kernel_rfl) (by kernel_rfl) (by kernel_rfl) (by kernel_rfl) noPanic_put (fun _ => rfl) (by decide) (by decide) (.int .i64 (leftK t r0)) (fun _ _ => by go_simp) (fun _ => fun _ _ => by go_simp) (S2) ?_
        simp only [Act.put, List.setIfInBounds_toArray, List.set_cons_zero, List.set_cons_succ]
        refine float_end rfl rfl rfl (fun _ => rfl) (by kernel_rfl) hz (hw1d.size) (S2) ?_
        intro we nb hwe hN3 hnb
        refine held_one 10 (by kernel_rfl) rfl rfl ?_
        intro K hK
        refine store_3_wp 54 _ _ rfl rfl zero_lcT.2 nb (lcC T.kd T.nm (.slice o7 T.kids.length c7)) rfl (lcC_one _ _ _ rfl) rfl rfl #[.int .i64 0, .int .i64 0, .slice none 0 0] rfl hN3 ?_
        intro wf hRf hgf hsf
        have hw1e : Below W1.heap.size W1 we := hw1d.trans (hwe.mono hw1d.size)
        have hse := hwe.size
        have hnW : W1.heap.size ≤ nb := hnb
        have hw1f : Below W1.heap.size W1 wf := hw1e.grown hgf hw1e.size (by intro k hk; cases hk; exact hnW)
        have hSf : wf.cell? ⟨gr, 0, none⟩ = some (.int .i64 (r0 : Int)) := by rw [hw1f.cell (p := ⟨gr, 0, none⟩) hgr]; exact hcr
        refine hK.out _ _ hSf ?_
        refine held_assign 11 (some 10) (by kernel_rfl) rfl rfl _ rfl rfl (.int .i64 (leftK t r0)) rfl hSf ?_
        simp only [Act.put, List.setIfInBounds_toArray, List.set_cons_zero, List.set_cons_succ]
        refine wpAnyH_done (by kernel_rfl) ?_ _
        refine NoPanic.normal ?_
        have hbf : Below w.heap.size w wf := HB1.out.trans (hw1f.mono HB1.out.size)
        have HBF := hideT' hbf
        have hcz : we.cell? ⟨nb, 0, none⟩ = some (.int .i64 0) := by rw [cell_of_row _ _ _ _ _ _ hN3]; rfl
        have hz9 : LcIn wf (fun _ => True) T (.slice o7 T.kids.length c7) := LcIn.keep (w := we) (by omega) (fun x hx hl => hgf.block x hl (by intro e; injection e with e; exact hx.2 e)) (fun _ _ _ => trivial) (LcIn.avoid hcz (LcIn.below hwe hz7))
        have HC9 := hideT' (lcTold_any T (.slice o7 T.kids.length c7) _ wf hz9)
        have HRF := hideT' hRf
        obtain ⟨q, hq⟩ : ∃ q, q = T.good := ⟨_, rfl⟩
        have HQ := hideT' hq
        unfold lcC at HC9
        clear hK hSf hz9 hz7 hz5 hwa hwb hwc hwd hwe hw1b hw1d hw1e hw1f hgf hRf hN3 hcz S0 S1 S2 hbf hq
        go_wp2_with (refine wpList_load_row rfl 54 _ rfl nb rfl 54 #[.int .i64 T.kd, .int .i64 T.nm, .slice o7 T.kids.length c7] (0, 0) _ HRF.out Try.underlying54 rfl zero_lcT.2 ?_)
        refine HC9.out.mono ?_
        rintro e w9 ⟨hT9, hB9⟩
        obtain ⟨u9, he9, hO9⟩ := hT9
        rw [← HQ.out] at he9 hO9
        subst he9
        have HB9 : Hid (Below w.heap.size w w9) := HBF.out.trans (hB9.mono HBF.out.size)
        have HO9 : Hid (OwnR w9 B0 u9 57 termL 3 (if q = true then tri (T.flat 0 (-1)) else [])) := ⟨hO9.1, hO9.2.imp id fun ⟨g, cap, cur, h1, h2, h3⟩ => ⟨g, cap, cur, h1, Nat.le_trans (by have := HBF.out.size; omega) h2, h3⟩⟩
        clear hB9 hO9
        cases q with
        | false =>
          have HE : Hid (Lm.norm F t0 = none) := by unfold Hid; rw [HNN.out, norm_bad HRD.out (by rw [← HTE.out]; exact HQ.out.symm)]; rfl
          go_wp2
          go_ret3
          exact ⟨by rw [HE.out]; exact rfl, HB9.out⟩
        | true =>
          have HE : Hid (Lm.norm F t0 = more (j + 1) (Lm.norm (F - (j + 1)) T)) := by
            unfold Hid
            rw [HNN.out, show F - j = F - (j + 1) + 1 by omega, norm_step HRD.out (by rw [← HTE.out]; exact HQ.out.symm), more_step, ← HTE.out]
          have HS9 : Hid (OwnR w9 B0 u9 57 termL 3 (tri (T.flat 0 (-1))) ∧ T.good = true ∧ Below w.heap.size w w9) := ⟨by simpa using HO9.out, HQ.out.symm, HB9.out⟩
          go_wp2
          go_roundg (F + 1 - (j + 1))
          case measure => omega
          case rel => exact ⟨T, j + 1, u9, rfl, by omega, rfl, by go_num, HS9, HE⟩
end Go.Proofs.Ytbnagagdboeedaa

/-
  What NormalTerm of the model answers.
-/
namespace Go.Proofs.Ytbnagagdboeedaa
open Go.RowKit BL
set_option linter.unusedVariables false

theorem NdIn.all {w : World} {v : Value} {l : List Nd} (h : NdIn w v l) (hne : l ≠ []) : ∃ g cap, v = .slice (some ⟨g, 0, none⟩) l.length cap ∧ g < w.heap.size ∧ ∀ j u, ((tri l).flatMap termL)[j]? = some u → w.cell? ⟨g, j, none⟩ = some u := by
  obtain ⟨o, cap, e, hin⟩ := h
  obtain ⟨g, ho, hg, hc⟩ := hin (by intro e; apply hne; have := congrArg List.length e; rw [tri_len] at this; exact List.length_eq_zero_iff.1 this)
  subst ho
  refine ⟨g, cap, by rw [e, tri_len], hg, fun j u hj => ?_⟩
  have hjl := (List.getElem?_eq_some_iff.1 hj).1
  rw [rec_len termL 3 termL_len] at hjl
  have hi : j / 3 < (tri l).length := by omega
  have hm : j % 3 < 3 := by omega
  have e2 : j = j / 3 * 3 + j % 3 := by omega
  have h2 := rec_get termL 3 termL_len (tri l) (j / 3) (j % 3) hi hm
  rw [← e2, hj] at h2
  have := hc (j / 3) (j % 3) u hi h2.symm
  rwa [← e2] at this
set_option maxHeartbeats 4000000 in
set_option maxRecDepth 100000 in
theorem specNormalTerm_any (l : List Nd) (fuel : Int) (v : Value) (w : World) (hv : NdIn w v l) (hl : l.length ≤ 1048576) :
    Calls Try.prog 29 #[v, .int .i64 fuel] w fun e w' => NmOut w l fuel e w' ∧ Below w.heap.size w w' := by
  have HV := hideT' hv
  have HC := hideT' (specGoodTerm_any l v w hv hl)
  clear hv
  cases hr : readP' l with
  | none =>
    have HN := hideT' (NmO_l (k := fuel) hr)
    rw [goodS_none hr] at HC
    clear hr
    go_enter Try.func29, Try.ntmps29
    go_wp2_with fail
    refine HC.out.mono ?_
    rintro e w1 ⟨rfl, hB1⟩
    go_wp2
    go_ret3
    exact ⟨NmOut.bad HN.out, hB1⟩
  | some t =>
    rw [goodS_some hr] at HC
    have HF1 := hideT' (readP'_facts hr)
    have HR := hideT' hr
    clear hr
    go_enter Try.func29, Try.ntmps29
    go_wp2_with fail
    refine HC.out.mono ?_
    rintro e w2 ⟨rfl, hB2⟩
    have HB2 := hideT' hB2
    clear hB2
    go_wp2_with fail
    refine (l1In_any fuel 0 1000 _).mono ?_
    rintro e w3 ⟨rfl, hw3⟩
    rw [hw3]
    clear hw3
    by_cases hk : 0 ≤ fuel ∧ fuel ≤ 1000
    · obtain ⟨F, rfl⟩ : ∃ F : Nat, fuel = (F : Int) := ⟨fuel.toNat, by omega⟩
      have hF : F ≤ 1000 := by omega
      have HN := hideT' (NmO_ok HR.out hF)
      rw [decide_eq_true hk.1, decide_eq_true hk.2]
      clear hk
      obtain ⟨i0, hi, hz0, hz1, hz2⟩ := info_parts info_term
      have hle : l.length = t.sz := by rw [HF1.out.1, Lm.flat_sz]
      have hls : l.length ≤ 150 := by have := HF1.out.2.1; omega
      have hl1 : 0 < l.length := by have := t.sz_pos; omega
      obtain ⟨g, cap, hvv, hg, hcells⟩ := (HV.out.below HB2.out).all (by intro e; rw [e] at hl1; simp at hl1)
      subst hvv
      have HCE := hideT' hcells
      obtain ⟨n, hn⟩ : ∃ n, n = l.length := ⟨_, rfl⟩
      rw [← hn] at hls hl1 ⊢
      have HNN := hideT' hn
      clear hle hcells hn
      go_wp2_with (at_builtin; refine wpList_append_own _ rfl _ _ 27 rfl w2.heap.size 57 i0 (.agg #[.int .i64 0, .int .i64 0, .int .i64 0]) 3 24 Try.underlying27 hi hz0 hz1 hz2 rfl (by decide) _ _ _ rfl (World.ownsRow_made w2 #[] 0 (Nat.le_refl _) (Nat.zero_le _) rfl) ⟨g, 0, none⟩ n cap ((tri l).flatMap termL) rfl ?qc1 ?qc2 ?qc3 ?qc4 ?qc5 ?qc6 ?_)
      case qc1 => rw [rec_len termL 3 termL_len, tri_len, ← HNN.out]
      case qc2 =>
        intro j u hj
        rw [Addr.add_lit]
        refine Lib.cell?_alloc_some _ ?_
        rw [Nat.zero_add]
        exact HCE.out j u hj
      case qc3 =>
        intro u hu
        obtain ⟨x, _, hx⟩ := List.mem_flatMap.1 hu
        exact termL_one x u hx
      case qc4 => unfold maxLen; omega
      case qc5 => omega
      case qc6 => simp
      intro v' w4 hown hgrow hnil
      have HOWN := hideT' hown
      have HGR := hideT' hgrow
      clear hown hgrow hnil
      have hown4 : OwnR w4 w2.heap.size v' 57 termL 3 (tri (t.flat 0 (-1))) := by
        have := HOWN.out
        unfold OwnR
        rw [← HF1.out.1, tri_len, ← HNN.out]
        simpa using this
      have hB4 : Below w2.heap.size w2 w4 := ((Below.refl _ w2).alloc (Nat.le_refl _) _).grown HGR.out (by simp) (by intro k hk; simp [Value.ownBlock] at hk; omega)
      have HC5 := hideT' (lcNormal_any t F v' w2.heap.size w4 hF HF1.out.2.2.2.2 hB4.size hown4)
      have HB4 : Hid (Below w.heap.size w w4) := HB2.out.trans (hB4.mono HB2.out.size)
      clear hown4 hB4
      go_wp2_with fail
      refine HC5.out.mono ?_
      rintro e w5 ⟨hL, hB5⟩
      have HB5 : Hid (Below w.heap.size w w5) := HB4.out.trans (hB5.mono HB4.out.size)
      clear hB5
      cases hnm : Lm.norm F t with
      | none =>
        rw [hnm] at hL
        have HE : Hid (NmO l (F : Int) = none) := by unfold Hid; rw [HN.out, hnm]; rfl
        have hL : e = .returned (.tuple #[.slice none 0 0, .int .i64 0, .bool false]) := hL
        subst hL
        clear hnm
        go_wp2
        go_ret3
        exact ⟨NmOut.bad HE.out, HB5.out⟩
      | some p =>
        rw [hnm] at hL
        obtain ⟨x, j⟩ := p
        obtain ⟨u, rfl, hO⟩ := hL
        have HE : Hid (NmO l (F : Int) = some (x, j)) := by unfold Hid; rw [HN.out, hnm, more_zero]
        have HG : Hid (NmOut w l (F : Int) (.returned (.tuple #[u, .int .i64 (j : Int), .bool true])) w5) := NmOut.good HE.out (norm_good F t _ HF1.out.2.2.2.2 hnm) hO HB2.out.size
        clear hnm hO
        go_wp2
        go_ret3
        exact ⟨HG.out, HB5.out⟩
    · have HN := hideT' (NmO_k (l := l) hk)
      have hbb : (decide (0 ≤ fuel) && decide (fuel ≤ 1000)) = false := by simpa using hk
      rw [hbb]
      clear hbb hk
      go_wp2
      go_ret3
      exact ⟨NmOut.bad HN.out, HB2.out⟩
end Go.Proofs.Ytbnagagdboeedaa

/-
  Rows of Term that are answers: what the laws' own helpers over them say.
-/
namespace Go.Proofs.Ytbnagagdboeedaa
open Go.RowKit
set_option linter.unusedVariables false
/-- One that is marked. -/
def markTerm (k : Int) : Int × Int × Int := (k, k + 1, k + 1 + 1)
theorem runX_term {o : Oper} {a : Act} {w : World} (x : Operand) (ho : o.op = .load 57 x) (b i : Nat) (hx : a.eval x = .pointer (some ⟨b, i * 3, none⟩)) (d : Int × Int × Int) (hD : w.rangeAt b (i * 3) (termL d)) :
    (execOp a.eval o).run Try.prog w = .ok (.value (.agg (termL d).toArray)) w := by
  have h := run_loadAt_mid (P := Try.prog) w b (i * 3) 57 (termL d) _ hD Try.underlying57 rfl zero_term.2
  unfold execOp
  simp only [ho, hx, Sem.run_bind, h, Result.andThen_ok]
  rfl
set_option maxHeartbeats 1000000 in
set_option maxRecDepth 100000 in
theorem eqTermS_in (v1 v2 : Value) (l : List (Int × Int × Int)) (w : World) (hl : l.length ≤ 1048576) (h1 : InR w v1 termL 3 l) (h2 : InR w v2 termL 3 l) :
    Calls Try.prog 20 #[v1, v2] w fun e w' => e = .returned (.bool true) ∧ Below w.heap.size w w' := by
  obtain ⟨o1, cap1, rfl, h1⟩ := h1
  obtain ⟨o2, cap2, rfl, h2⟩ := h2
  rcases Classical.em (l = []) with rfl | hne
  · clear h1 h2
    go_enter Try.func20, Try.ntmps20
    go_wp2_with fail
    go_loopg [5] 0 (fun g i wr => i = .int .i64 0 ∧ wr = w)
    case atStart => exact ⟨rfl, rfl⟩
    case round =>
      obtain ⟨rfl, rfl⟩ := hrel
      go_wp2
      go_ret
      exact ⟨rfl, Below.refl _ _⟩
  obtain ⟨b1, rfl, hb1, h1⟩ := h1 hne
  obtain ⟨b2, rfl, hb2, h2⟩ := h2 hne
  have H1 := hideT' h1
  have H2 := hideT' h2
  clear h1 h2 hne
  go_enter Try.func20, Try.ntmps20
  go_wp2_with fail
  go_loopg [5] l.length (fun g i wr => ∃ k : Nat, g = l.length - k ∧ k ≤ l.length ∧ i = .int .i64 (k : Int) ∧ Below w.heap.size w wr)
  case atStart => exact ⟨0, rfl, by omega, rfl, Below.refl _ _⟩
  case round =>
    obtain ⟨k, hg, hk, rfl, hW⟩ := hrel
    by_cases hlt : (k : Int) < (l.length : Int)
    · have hk' : k < l.length := by omega
      obtain ⟨d, hd⟩ : ∃ d, d = l.getD k default := ⟨_, rfl⟩
      have HDM := hideT' hd
      have h1 := H1.out
      have h2 := H2.out
      clear hd
      have hrg : ∀ w', Below w.heap.size w w' → w'.rangeAt b1 (k * 3) (termL d) ∧ w'.rangeAt b2 (k * 3) (termL d) := fun w' hB => by
        refine ⟨fun j u hu => ?_, fun j u hu => ?_⟩
        · rw [hB.cell (p := ⟨b1, k * 3 + j, none⟩) hb1]; rw [HDM.out] at hu; exact h1 k j u hk' hu
        · rw [hB.cell (p := ⟨b2, k * 3 + j, none⟩) hb2]; rw [HDM.out] at hu; exact h2 k j u hk' hu
      have HRG := hideT' hrg
      have hS := hrg wr.drew (Below.drew hW)
      clear h1 h2 hrg
      go_wp2_with fail
      refine held_begin (fun w' => w'.rangeAt b1 (k * 3) (termL d) ∧ w'.rangeAt b2 (k * 3) (termL d)) (by kernel_rfl) ?_
      refine held_val 0 (some 17) rfl rfl (by kernel_rfl) (by kernel_rfl) (by kernel_rfl) noPanic_put rfl (.slice (some ⟨b1, 0, none⟩) l.length cap1) (fun _ => rfl) hS ?_
      simp only [Act.put, List.setIfInBounds_toArray, List.set_cons_zero, List.set_cons_succ]
      refine held_val 1 (some 18) rfl rfl (by kernel_rfl) (by kernel_rfl) (by kernel_rfl) noPanic_put rfl (.int .i64 (k : Int)) (fun _ => rfl) hS ?_
      simp only [Act.put, List.setIfInBounds_toArray, List.set_cons_zero, List.set_cons_succ]
      refine held_val 2 (some 19) rfl rfl (by kernel_rfl) (by kernel_rfl) (by kernel_rfl) noPanic_put rfl (.pointer (some ⟨b1, k * 3, none⟩)) (fun _ => by go_simp) hS ?_
      simp only [Act.put, List.setIfInBounds_toArray, List.set_cons_zero, List.set_cons_succ]
      refine held_valS 3 (some 20) rfl rfl (by kernel_rfl) (by kernel_rfl) (by kernel_rfl) noPanic_put rfl (.agg (termL d).toArray) (fun _ hw' => runX_term _ rfl b1 k rfl d hw'.1) hS ?_
      simp only [Act.put, List.setIfInBounds_toArray, List.set_cons_zero, List.set_cons_succ]
      refine held_val 4 (some 21) rfl rfl (by kernel_rfl) (by kernel_rfl) (by kernel_rfl) noPanic_put rfl (.slice (some ⟨b2, 0, none⟩) l.length cap2) (fun _ => rfl) hS ?_
      simp only [Act.put, List.setIfInBounds_toArray, List.set_cons_zero, List.set_cons_succ]
      refine held_val 5 (some 22) rfl rfl (by kernel_rfl) (by kernel_rfl) (by kernel_rfl) noPanic_put rfl (.int .i64 (k : Int)) (fun _ => rfl) hS ?_
      simp only [Act.put, List.setIfInBounds_toArray, List.set_cons_zero, List.set_cons_succ]
      refine held_val 6 (some 23) rfl rfl (by kernel_rfl) (by kernel_rfl) (by kernel_rfl) noPanic_put rfl (.pointer (some ⟨b2, k * 3, none⟩)) (fun _ => by go_simp) hS ?_
      simp only [Act.put, List.setIfInBounds_toArray, List.set_cons_zero, List.set_cons_succ]
      refine held_valS 7 (some 24) rfl rfl (by kernel_rfl) (by kernel_rfl) (by kernel_rfl) noPanic_put rfl (.agg (termL d).toArray) (fun _ hw' => runX_term _ rfl b2 k rfl d hw'.2) hS ?_
      simp only [Act.put, List.setIfInBounds_toArray, List.set_cons_zero, List.set_cons_succ]
      refine held_call 8 (some 25) (by kernel_rfl) rfl rfl rfl 56 #[.agg (termL d).toArray, .agg (termL d).toArray] (by go_simp) _ (eqTerm_any d wr.drew) ?_
      rintro e w2 ⟨rfl, hW2⟩
      have hW2 : Below wr.heap.size wr w2 := ⟨hW2.os, hW2.tape, hW2.output, hW2.size, hW2.block⟩
      have hW3 := hW.trans (hW2.mono hW.size)
      have hS2 := HRG.out w2 hW3
      refine ⟨_, rfl, hS2, ?_⟩
      simp only [Act.put, List.setIfInBounds_toArray, List.set_cons_zero, List.set_cons_succ]
      refine held_val 9 (some 26) rfl rfl (by kernel_rfl) (by kernel_rfl) (by kernel_rfl) noPanic_put rfl (.bool false) (fun _ => by go_simp) hS2 ?_
      simp only [Act.put, List.setIfInBounds_toArray, List.set_cons_zero, List.set_cons_succ]
      refine wpAnyH_done (by kernel_rfl) ?_ _
      refine NoPanic.normal ?_
      go_wp2
      go_roundg (l.length - (k + 1))
      case measure => omega
      case rel => exact ⟨k + 1, rfl, by omega, by go_num, hW3⟩
    · go_wp2
      go_ret
      exact ⟨rfl, hW⟩
set_option maxHeartbeats 2000000 in
set_option maxRecDepth 100000 in
theorem markTermS_own (v : Value) (n : Nat) (xs0 : List Value) (k : Int) (B : Nat) (w : World) (hk0 : 0 < k) (hk1 : k + 3 * (n : Int) ≤ 1099511627776) (h : w.ownsRow B 57 3 v n xs0) :
    Calls Try.prog 21 #[v, .int .i64 k] w fun e w' => e = .returned (.int .i64 (k + 3 * (n : Int))) ∧ OwnR w' B v 57 termL 3 (markL markTerm 3 k n) ∧ w.grownBy w' v.ownBlock := by
  rcases h.2 with ⟨rfl, rfl⟩ | ⟨b, cap, cur, rfl, hB, _⟩
  · have hx : k + 3 * ((0 : Nat) : Int) = k := by simp
    rw [hx]
    clear hx hk1
    go_enter Try.func21, Try.ntmps21
    go_wp2_with fail
    go_loopg [1, 5] 0 (fun g x i wr => x = .int .i64 k ∧ i = .int .i64 0 ∧ wr = w)
    case atStart => exact ⟨rfl, rfl, rfl⟩
    case round =>
      obtain ⟨rfl, rfl, rfl⟩ := hrel
      go_wp2
      go_ret
      exact ⟨rfl, by simpa [OwnR, markL] using World.ownsRow_nil _ _ _ _, ⟨rfl, rfl, rfl, Nat.le_refl _, fun _ _ _ => rfl⟩⟩
  · obtain ⟨N, hN⟩ : ∃ N : Int, N = k + 3 * (n : Int) := ⟨_, rfl⟩
    have HN := hideT' hN
    have HB := hideT' hk1
    clear hN hk1
    go_enter Try.func21, Try.ntmps21
    go_wp2_with fail
    go_loopg [1, 5] n (fun g x i wr => ∃ (j : Nat) (y : Int) (xs : List Value), g = n - j ∧ j ≤ n ∧ i = .int .i64 (j : Int) ∧ x = .int .i64 y ∧ 0 < y ∧ y ≤ 1099511627776 ∧ Hid (y = k + 3 * (j : Int)) ∧ wr.ownsRow B 57 3 (.slice (some ⟨b, 0, none⟩) n cap) n xs ∧ Hid (Marked termL markTerm 3 k j xs) ∧ w.grownBy wr (some b))
    case atStart => exact ⟨0, k, xs0, rfl, by omega, rfl, rfl, by omega, by have := HB.out; omega, by simp [Hid], h, (fun j hj => by omega : Marked termL markTerm 3 k 0 xs0), ⟨rfl, rfl, rfl, Nat.le_refl _, fun _ _ _ => rfl⟩⟩
    case round =>
      clear h
      obtain ⟨j, x, xs, hg, hj, rfl, rfl, hx0, hx1, HX, hown, HM, hG⟩ := hrel
      by_cases hlt : (j : Int) < (n : Int)
      · have hj' : j < n := by omega
        have HJ : Hid (j * 3 + 3 ≤ n * 3) := by unfold Hid; omega
        have hx2 : x + 3 ≤ 1099511627776 := by have := HB.out; have := HX.out; omega
        go_wp2_with (first | (refine store_own rfl 3 _ _ rfl rfl b (j * 3) (.int .i64 (x)) rfl rfl size1_int rfl hown (by have := HJ.out; omega) ?_; intro w1 own1 hg1 hs1) | (refine store_own rfl 3 _ _ rfl rfl b (j * 3 + 1) (.int .i64 (x + 1)) rfl rfl size1_int rfl own1 (by have := HJ.out; omega) ?_; intro w2 own2 hg2 hs2) | (refine store_own rfl 3 _ _ rfl rfl b (j * 3 + 2) (.int .i64 (x + 1 + 1)) rfl rfl size1_int rfl own2 (by have := HJ.out; omega) ?_; intro w3 own3 hg3 hs3))
        go_roundg (n - (j + 1))
        case measure => omega
        case rel =>
          have hbb := HB.out
          refine ⟨j + 1, x + 3, _, rfl, by omega, congrArg (Value.int .i64) (by unfold wrap64; omega), congrArg (Value.int .i64) (by omega), by omega, hx2, by have := HX.out; unfold Hid; omega, own3, ?_, (grownX_trans (grownX_trans (grownX_trans hG hg1) hg2) hg3)⟩
          intro i hi q hq
          by_cases e : i = j
          · subst e
            have hxe : k + ((3 : Nat) : Int) * (i : Int) = x := by have := HX.out; omega
            rw [hxe]
            have hl1 := hown.1
            match q, hq with
            | 0, _ => simp [List.getElem?_set, termL, markTerm]; omega
            | 1, _ => simp [List.getElem?_set, termL, markTerm]; omega
            | 2, _ => simp [List.getElem?_set, termL, markTerm]; omega
          · exact (((HM.out.set (j * 3) (.int .i64 (x)) (by omega)).set (j * 3 + 1) (.int .i64 (x + 1)) (by omega)).set (j * 3 + 2) (.int .i64 (x + 1 + 1)) (by omega)) i (by omega) q hq
      · have hjn : j = n := by omega
        subst hjn
        have hxs := HM.out.all termL_len hown.1
        rw [hxs] at hown
        have HO := hideT' hown
        clear hown hxs
        have HXN : Hid (x = N) := by unfold Hid; rw [HX.out, HN.out]
        go_wp2
        go_ret
        refine ⟨by rw [← HN.out, ← HXN.out]; rfl, ?_, hG⟩
        have := HO.out
        unfold OwnR
        rw [markL_len]
        exact this
set_option maxHeartbeats 2000000 in
set_option maxRecDepth 100000 in
theorem heldTermS_in (v : Value) (n : Nat) (k : Int) (w : World) (hk0 : 0 < k) (hk1 : k + 3 * (n : Int) ≤ 1099511627776) (h : InR w v termL 3 (markL markTerm 3 k n)) :
    Calls Try.prog 26 #[v, .int .i64 k] w fun e w' => e = .returned (.int .i64 (k + 3 * (n : Int))) ∧ Below w.heap.size w w' := by
  obtain ⟨o, cap, rfl, h⟩ := h
  rw [markL_len]
  rcases Nat.eq_zero_or_pos n with rfl | hn
  · have hx : k + 3 * ((0 : Nat) : Int) = k := by simp
    rw [hx]
    clear hx hk1 h
    go_enter Try.func26, Try.ntmps26
    go_wp2_with fail
    go_loopg [1, 5] 0 (fun g x i wr => x = .int .i64 k ∧ i = .int .i64 0 ∧ wr = w)
    case atStart => exact ⟨rfl, rfl, rfl⟩
    case round =>
      obtain ⟨rfl, rfl, rfl⟩ := hrel
      go_wp2
      go_ret
      exact ⟨rfl, Below.refl _ _⟩
  obtain ⟨b, rfl, hb, h1⟩ := h (by intro e; have := congrArg List.length e; rw [markL_len] at this; simp at this; omega)
  obtain ⟨N, hN⟩ : ∃ N : Int, N = k + 3 * (n : Int) := ⟨_, rfl⟩
  have HN := hideT' hN
  have HB := hideT' hk1
  have H1 := hideT' h1
  clear hN hk1 h1 h
  go_enter Try.func26, Try.ntmps26
  go_wp2_with fail
  go_loopg [1, 5] n (fun g x i wr => ∃ (j : Nat) (y : Int), g = n - j ∧ j ≤ n ∧ i = .int .i64 (j : Int) ∧ x = .int .i64 y ∧ 0 < y ∧ y ≤ 1099511627776 ∧ Hid (y = k + 3 * (j : Int)) ∧ Below w.heap.size w wr)
  case atStart => exact ⟨0, k, rfl, by omega, rfl, rfl, by omega, by have := HB.out; omega, by simp [Hid], Below.refl _ _⟩
  case round =>
    obtain ⟨j, x, hg, hj, rfl, rfl, hx0, hx1, HX, hW⟩ := hrel
    by_cases hlt : (j : Int) < (n : Int)
    · have hj' : j < n := by omega
      have hx2 : x + 3 ≤ 1099511627776 := by have := HB.out; have := HX.out; omega
      have hxe : k + ((3 : Nat) : Int) * (j : Int) = x := by have := HX.out; omega
      have hcell : ∀ q u, (termL (markTerm x))[q]? = some u → wr.cell? ⟨b, j * 3 + q, none⟩ = some u := fun q u hu => by
        have := H1.out j q u (by rw [markL_len]; exact hj') (by rw [markL_get markTerm 3 k n j hj', hxe]; exact hu)
        exact (hW.cell (p := ⟨b, j * 3 + q, none⟩) hb).trans this
      have c0 := hcell 0 (.int .i64 (x)) rfl
      have c1 := hcell 1 (.int .i64 (x + 1)) rfl
      have c2 := hcell 2 (.int .i64 (x + 1 + 1)) rfl
      rw [Nat.add_zero] at c0
      have HC := hideT' hcell
      clear hcell hxe
      go_wp2
      go_roundg (n - (j + 1))
      case measure => omega
      case rel =>
        have hbb := HB.out
        exact ⟨j + 1, x + 3, rfl, by omega, congrArg (Value.int .i64) (by unfold wrap64; omega), congrArg (Value.int .i64) (by omega), by omega, hx2, by have := HX.out; unfold Hid; omega, hW⟩
    · have hjn : j = n := by omega
      have HXN : Hid (x = N) := by unfold Hid; rw [HX.out, HN.out, hjn]
      go_wp2
      go_ret
      exact ⟨by rw [← HN.out, ← HXN.out]; rfl, hW⟩
end Go.Proofs.Ytbnagagdboeedaa

/-
  Nodes that came in as an argument: what their reading says of the cells.
-/
namespace Go.Proofs.Ytbnagagdboeedaa
open Go.ChangeShapes Go.WideShapes Go.ChangeAt Go.RowKit
set_option linter.unusedVariables false

def ndsOf (l : List (Int × Int × Int)) : List Nd := l.map fun x => ⟨x.1, x.2.1, x.2.2⟩
theorem tri_ndsOf (l : List (Int × Int × Int)) : tri (ndsOf l) = l := by
  unfold tri ndsOf triN
  rw [List.map_map]
  exact List.map_id' l
theorem ndsOf_len (l : List (Int × Int × Int)) : (ndsOf l).length = l.length := by simp [ndsOf]
theorem ndsOf_tri (l : List Nd) : ndsOf (tri l) = l := by
  unfold tri ndsOf triN
  rw [List.map_map]
  exact List.map_id' l
theorem RecAt.nds {w : World} {b : Nat} {T : TypeId} {l : List (Int × Int × Int)} (h : RecAt w b T termL l) : NdIn w (slR b l) (ndsOf l) := by
  unfold NdIn
  rw [tri_ndsOf]
  exact h.inR termL_len

theorem cells_intT : Try.prog.cellsOf 3 = 1 := by kernel_rfl
set_option maxRecDepth 100000 in
theorem open_term {H : Type} {enc : TypeId × Value → H} {W : World} (n : Nat) (cs : List Value) (x : DataW H × List MemPlace) (hl : cs.length = 3) (h : DataW.trod enc Try.prog W 0 (fun _ => true) true n 59 cs = some x) :
    ∃ d : Int × Int × Int, cs = termL d ∧ True := by
  obtain ⟨xs, m, _, _, _, hlen, hf⟩ := DataW.trod_struct Try.underlying59 h
  obtain ⟨a, b, c, rfl⟩ : ∃ a b c, cs = [a, b, c] := by
    match cs, hl with
    | [a, b, c], _ => exact ⟨a, b, c, rfl⟩
  obtain ⟨y0, y1, y2, rfl⟩ : ∃ y0 y1 y2, xs = [y0, y1, y2] := by
    match xs, hlen with
    | [y0, y1, y2], _ => exact ⟨y0, y1, y2, rfl⟩
  have g0 : DataW.trod enc Try.prog W 0 (fun _ => true) true m 3 (([a, b, c].drop 0).take (Try.prog.cellsOf 3)) = some y0 := by simpa using hf 0 _ rfl
  have g1 : DataW.trod enc Try.prog W 0 (fun _ => true) true m 3 (([a, b, c].drop 1).take (Try.prog.cellsOf 3)) = some y1 := by simpa using hf 1 _ rfl
  have g2 : DataW.trod enc Try.prog W 0 (fun _ => true) true m 3 (([a, b, c].drop 2).take (Try.prog.cellsOf 3)) = some y2 := by simpa using hf 2 _ rfl
  rw [cells_intT] at g0 g1 g2
  obtain ⟨k, e0, _, _⟩ := DataW.trod_int Try.underlying3 g0
  obtain ⟨u, e1, _, _⟩ := DataW.trod_int Try.underlying3 g1
  obtain ⟨t, e2, _, _⟩ := DataW.trod_int Try.underlying3 g2
  simp at e0 e1 e2
  exact ⟨(k, u, t), by rw [e0, e1, e2]; rfl, trivial⟩
theorem cells_lterm : Try.prog.cellsOf 59 = 3 := by kernel_rfl

set_option maxRecDepth 100000 in
theorem open_terms {H : Type} {enc : TypeId × Value → H} {W : World} {base : Nat} {v : Value} {d : DataW H} {ps : List MemPlace} (hval : Value.okWide Try.prog W .any base 22 v) (h : DataW.Trod enc Try.prog W 0 (fun _ => true) true 22 v d ps) :
    ∃ l : List (Int × Int × Int), SlR W v termL 3 l ∧ l.length ≤ maxLen := by
  obtain ⟨a0, len, cap, rfl⟩ := okWide_slice Try.underlying22 hval
  obtain ⟨fuel, hf⟩ := h
  obtain ⟨v', l, e1, hL, q1, q2⟩ := open_recs termL 3 (by decide) termL_len (fun _ => True) Try.underlying22 cells_lterm open_term hf
  have e2 : Value.slice a0 len cap = v' := by simpa [Value.cells] using e1
  rw [e2]
  exact ⟨l, hL, q2⟩
end Go.Proofs.Ytbnagagdboeedaa
