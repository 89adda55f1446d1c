/-
  What lcRedexes and RedexesIn of the model answer; RedexesIn of the program.
-/
import Derived.Test.YtnnhedncdpfiaaaSpecGoodT
import Derived.Test.YtnnhedncdpfiaaaImplRedB
namespace Go.Proofs.Ytnnhedncdpfiaaa
open Go.RowKit BL
set_option linter.unusedVariables false

theorem Seg.spot {l : List Nd} : ∀ {t : Lm} {a : Nat} {up : Int}, Seg l t a up → ∀ m, ∀ x ∈ t.walk a up m, ndAt l x.at_ = x.nd ∧ x.at_ + x.t.sz ≤ a + t.sz
  | .var n, a, up, h, m, x, hx => by
    simp only [Lm.walk, List.mem_singleton] at hx
    subst hx
    exact ⟨h.nd, Nat.le_refl _⟩
  | .lam t, a, up, h, m, x, hx => by
    rw [Lm.walk] at hx
    rcases List.mem_cons.1 hx with rfl | hx
    · exact ⟨h.nd, Nat.le_refl _⟩
    · have := Seg.spot h.2 _ x hx
      exact ⟨this.1, by have := this.2; simp only [Lm.sz]; omega⟩
  | .app s t, a, up, h, m, x, hx => by
    rw [Lm.walk] at hx
    rcases List.mem_cons.1 hx with rfl | hx
    · exact ⟨h.nd, Nat.le_refl _⟩
    · rcases List.mem_append.1 hx with hx | hx
      · have := Seg.spot h.2.1 _ x hx
        exact ⟨this.1, by have := this.2; simp only [Lm.sz]; omega⟩
      · have := Seg.spot h.2.2 _ x hx
        exact ⟨this.1, by have := this.2; simp only [Lm.sz]; omega⟩
/-- An application has a node behind it. -/
theorem flat_next (t : Lm) (k : Nat) (hk : k < t.sz) (h3 : (ndAt (t.flat 0 (-1)) k).k = 3) : k + 1 < t.sz := by
  have h1 : k ∈ (t.walk 0 (-1) 0).map Spot.at_ := by rw [Lm.walk_ats]; simp [List.mem_range']; omega
  obtain ⟨x, hx, rfl⟩ := List.mem_map.1 h1
  have h2 := Seg.spot (Seg.whole t) 0 x hx
  rw [h2.1] at h3
  simp only [Spot.nd] at h3
  cases hx' : x.t with
  | var n => rw [hx'] at h3; simp [Lm.kd] at h3
  | lam s => rw [hx'] at h3; simp [Lm.kd] at h3
  | app p q =>
    have h4 := h2.2
    rw [hx'] at h4
    simp only [Lm.sz] at h4
    have := p.sz_pos
    omega
def redsTo (l : List Nd) (k : Nat) : List Nat := (List.range k).filter (redN l)
theorem redsTo_succ (l : List Nd) (k : Nat) : redsTo l (k + 1) = redsTo l k ++ (if redN l k then [k] else []) := by
  unfold redsTo
  rw [List.range_succ, List.filter_append]
  congr 1
  cases h : redN l k <;> simp [List.filter, h]
theorem redsTo_le (l : List Nd) (k : Nat) : (redsTo l k).length ≤ k := by
  unfold redsTo
  exact Nat.le_trans (List.length_filter_le _ _) (by simp)

set_option maxHeartbeats 4000000 in
set_option maxRecDepth 100000 in
theorem lcRedexes_any (t : Lm) (v : Value) (w : World) (hv : NdIn w v (t.flat 0 (-1))) (hs : t.sz ≤ 1000000) :
    Calls Try.prog 44 #[v] w fun e w' => (∃ u, e = .returned u ∧ OwnR w' w.heap.size u 3 intL 1 (natsI t.reds)) ∧ Below w.heap.size w w' := by
  have HV := hideT' hv
  obtain ⟨o, cap, rfl⟩ := hv.len
  clear hv
  obtain ⟨i0, hi, hz0, hz1, hz2⟩ := info_parts info_int
  have hz := zero_term.1
  obtain ⟨l, hl⟩ : ∃ l, l = t.flat 0 (-1) := ⟨_, rfl⟩
  rw [← hl] at HV ⊢
  obtain ⟨n, hn⟩ : ∃ n, n = l.length := ⟨_, rfl⟩
  have HNS : Hid (n = t.sz) := by unfold Hid; rw [hn, hl, Lm.flat_sz]
  have HNX : Hid (∀ k, k < n → (ndAt l k).k = 3 → k + 1 < n) := fun k hk h3 => by rw [HNS.out]; exact flat_next t k (by rw [← HNS.out]; exact hk) (by rw [← hl]; exact h3)
  have HRE : Hid (redsTo l n = t.reds) := by
    unfold Hid
    rw [← redsN_flat, ← hl, hn]; rfl
  have HNN := hideT' hn
  have hn1 : n ≤ 1000000 := by rw [HNS.out]; exact hs
  rw [← hn]
  clear hn hl hs
  go_enter Try.func44, Try.ntmps44
  go_wp2_with fail
  go_loopg [3, 8] n (fun g x i wr => ∃ k : Nat, g = n - k ∧ k ≤ n ∧ i = .int .i64 (k : Int) ∧ OwnR wr w.heap.size x 3 intL 1 (natsI (redsTo l k)) ∧ Below w.heap.size w wr)
  case atStart => exact ⟨0, rfl, by omega, by go_num, World.ownsRow_nil _ _ _ _, Below.refl _ _⟩
  case round =>
    obtain ⟨k, hg, hk, rfl, hO, hW⟩ := hrel
    obtain ⟨o2, cap2, hv2⟩ := own_formT hO
    have HO := hideT' hO
    subst hv2
    by_cases hlt : (k : Int) < (n : Int)
    · obtain ⟨nd, hnd⟩ : ∃ nd, nd = ndAt l k := ⟨_, rfl⟩
      obtain ⟨b, rfl, hb, c0, c1, c2⟩ := (HV.out.below hW).cells (by have := HNN.out; omega) hnd
      have hb' : b < wr.heap.size := hb
      have hsucc := redsTo_succ l k
      have hpl := redsTo_le l k
      rw [← natsI_len] at hpl
      have HW := hideT' hW
      have hsz := hW.size
      have HKD : Hid ((ndAt l k).k = nd.k) := by unfold Hid; rw [hnd]
      clear hb hnd hO hW
      obtain ⟨kd, nm, u⟩ := nd
      simp only at c0 c1 c2 HKD
      have hAl : Below w.heap.size w (wr.alloc (.cells #[.int .i64 kd, .int .i64 nm, .int .i64 u] 54)) := HW.out.alloc hsz _
      have HAL := hideT' hAl
      clear hAl
      by_cases h3 : kd = 3
      · subst h3
        have hk1 := HNX.out k (by omega) HKD.out
        obtain ⟨nd2, hnd2⟩ : ∃ nd2, nd2 = ndAt l (k + 1) := ⟨_, rfl⟩
        obtain ⟨b2, e2, _, d0, _, _⟩ := (HV.out.below HW.out).cells (by have := HNN.out; omega) hnd2
        cases e2
        have HRN : Hid (redN l k = decide (nd2.k = 2)) := by unfold Hid redN; rw [HKD.out, ← hnd2]; simp
        clear hnd2
        obtain ⟨kd2, nm2, u2⟩ := nd2
        simp only at d0 HRN
        have hcast : ((k + 1 : Nat) : Int) = (k : Int) + 1 := by omega
        have HCA := hideT' hcast
        clear hcast
        by_cases h2 : kd2 = 2
        · have HS : Hid (natsI (redsTo l (k + 1)) = natsI (redsTo l k) ++ [(k : Int)]) := by unfold Hid; rw [hsucc, HRN.out, decide_eq_true h2]; simp [natsI]
          clear hsucc
          go_wp2_with (at_builtin; refine wpList_append_own _ rfl _ _ 29 rfl w.heap.size 3 i0 (.int .i64 0) 1 8 Try.underlying29 hi hz0 hz1 hz2 rfl (by decide) _ _ _ rfl ((HO.out.alloc _).alloc _) ⟨wr.heap.size + 1, 0, none⟩ 1 1 [.int .i64 (k : Int)] rfl rfl (by have := cell_one_new (wr.alloc (.cells #[.int .i64 3, .int .i64 nm, .int .i64 u] 54)) (.int .i64 (k : Int)) 3; rw [World.size_alloc] at this; exact this) (oneT_cell _) (by unfold maxLen; omega) (by omega) (by simp; omega) ?_; intro v' w4 hown' hgrow _)
          have hgb : ∀ g, (Value.slice o2 (natsI (redsTo l k)).length cap2).ownBlock = some g → w.heap.size ≤ g := fun g e => (HO.out.lt g e).1
          go_roundg (n - (k + 1))
          case measure => omega
          case rel =>
            refine ⟨k + 1, rfl, by omega, by go_num, ?_, ?_⟩
            · rw [HS.out]
              unfold OwnR
              rw [List.length_append, List.flatMap_append]
              exact hown'
            · exact (HAL.out.alloc (by simp; omega) _).grown hgrow (by simp; omega) (fun k hk => hgb _ hk)
        · have HS : Hid (natsI (redsTo l (k + 1)) = natsI (redsTo l k)) := by unfold Hid; rw [hsucc, HRN.out, decide_eq_false h2]; simp
          clear hsucc
          go_wp2
          go_roundg (n - (k + 1))
          case measure => omega
          case rel => exact ⟨k + 1, rfl, by omega, by go_num, by rw [HS.out]; exact HO.out.alloc _, HAL.out⟩
      · have HS : Hid (natsI (redsTo l (k + 1)) = natsI (redsTo l k)) := by unfold Hid; rw [hsucc]; unfold redN; rw [HKD.out, decide_eq_false h3]; simp
        clear hsucc
        go_wp2
        go_roundg (n - (k + 1))
        case measure => omega
        case rel => exact ⟨k + 1, rfl, by omega, by go_num, by rw [HS.out]; exact HO.out.alloc _, HAL.out⟩
    · have hkn : k = n := by omega
      subst hkn
      clear hO
      go_wp2
      go_ret
      exact ⟨⟨_, rfl, by rw [← HRE.out]; exact HO.out⟩, hW⟩

/-- The answer of both RedexesIn. -/
def RedB (l : List Nd) : Bool := goodS l
def RedL (l : List Nd) : List Int := match readP' l with | none => [] | some t => natsI t.reds
def RedOut (w : World) (l : List Nd) (e : Ending) (w' : World) : Prop :=
  ∃ u, e = .returned (.tuple #[u, .bool (RedB l)]) ∧ OwnR w' w.heap.size u 3 intL 1 (RedL l)
theorem own_keep' {w w' : World} {B n s : Nat} {T : TypeId} {v : Value} {xs : List Value} {row : Option Nat} (h : w.ownsRow B T s v n xs) (hg : w.grownBy w' row) (hr : ∀ g, v.ownBlock = some g → some g ≠ row) : w'.ownsRow B T s v n xs :=
  own_keep h (fun g e => hg.block g (h.lt g e).2 (hr g e))
theorem readP'_good {l : List Nd} {t : Lm} (h : readP' l = some t) : l = t.flat 0 (-1) ∧ t.sz ≤ 150 := by
  have := (readP'_iff l t).1 h
  exact ⟨this.1, (Lm.good_sz this.2).1⟩
theorem RedL_len (l : List Nd) : (RedL l).length ≤ 1048576 := by
  unfold RedL
  split
  · simp
  · next t h =>
    have h1 := (readP'_good h).2
    rw [natsI_len]
    unfold Lm.reds
    rw [List.length_map]
    have h2 := List.length_filter_le (fun x : Spot => x.t.isRed) (t.walk 0 (-1) 0)
    rw [Lm.walk_len] at h2
    omega
set_option maxHeartbeats 2000000 in
theorem specRedexesIn_any (l : List Nd) (v : Value) (w : World) (hv : NdIn w v l) (hl : l.length ≤ 1048576) :
    Calls Try.prog 16 #[v] w fun e w' => RedOut w l e w' ∧ Below w.heap.size w w' := by
  have HV := hideT' hv
  have HC := hideT' (specGoodTerm_any l v w hv hl)
  clear hv
  have hgr := goodS_read l
  cases hr : readP' l with
  | none =>
    rw [hr] at hgr
    have HG : Hid (goodS l = false) := hgr
    have HR := hideT' hr
    rw [HG.out] at HC
    clear hgr hr
    go_enter Try.func16, Try.ntmps16
    go_wp2_with fail
    refine HC.out.mono ?_
    rintro e w1 ⟨rfl, hB1⟩
    go_wp2
    go_ret2
    exact ⟨⟨.slice none 0 0, by unfold RedB; rw [HG.out]; rfl, by unfold RedL; rw [HR.out]; exact World.ownsRow_nil _ _ _ _⟩, hB1⟩
  | some t =>
    rw [hr] at hgr
    have HG : Hid (goodS l = true) := hgr
    have HR := hideT' hr
    rw [HG.out] at HC
    obtain ⟨hl1, hl2⟩ := readP'_good hr
    have HL := hideT' hl1
    clear hgr hr hl1
    go_enter Try.func16, Try.ntmps16
    go_wp2_with fail
    refine HC.out.mono ?_
    rintro e w1 ⟨rfl, hB1⟩
    have HC2 := hideT' (lcRedexes_any t v w1 (by have := HV.out.below hB1; rw [HL.out] at this; exact this) (by omega))
    go_wp2_with fail
    refine HC2.out.mono ?_
    rintro e w2 ⟨⟨u, rfl, hO⟩, hB2⟩
    have HF : Hid (OwnR w2 w.heap.size u 3 intL 1 (natsI t.reds) ∧ Below w.heap.size w w2) := ⟨⟨hO.1, hO.2.imp id fun ⟨g, cap, cur, h1, h2, h3⟩ => ⟨g, cap, cur, h1, Nat.le_trans hB1.size h2, h3⟩⟩, hB1.trans (hB2.mono hB1.size)⟩
    clear hO hB2
    go_wp2
    go_ret2
    exact ⟨⟨u, by unfold RedB; rw [HG.out]; rfl, by unfold RedL; rw [HR.out]; exact HF.out.1⟩, HF.out.2⟩
set_option maxHeartbeats 2000000 in
theorem implRedexesIn_any (l : List Nd) (v : Value) (w : World) (hv : NdIn w v l) (hl : l.length ≤ 1048576) :
    Calls Try.prog 17 #[v] w fun e w' => RedOut w l e w' ∧ Below w.heap.size w w' := by
  have HC := hideT' (readTree_any l v w hv hl)
  have hgr := goodS_read l
  clear hv
  go_enter Try.func17, Try.ntmps17
  go_wp2_with fail
  refine HC.out.mono ?_
  rintro e w1 ⟨hans, hB1⟩
  rcases hans with ⟨p, rfl, hn⟩ | ⟨t, b, rfl, hr, hT⟩
  · have HG : Hid (goodS l = false) := by unfold Hid; rw [hgr, hn]; rfl
    have HR := hideT' hn
    clear hgr hn
    go_wp2
    go_ret2
    exact ⟨⟨.slice none 0 0, by unfold RedB; rw [HG.out]; rfl, by unfold RedL; rw [HR.out]; exact World.ownsRow_nil _ _ _ _⟩, hB1⟩
  · have HG : Hid (goodS l = true) := by unfold Hid; rw [hgr, hr]; rfl
    obtain ⟨_, hl2⟩ := readP'_good hr
    have HR := hideT' hr
    have HC2 := hideT' (redexesIn_any t b _ w1 hT (by omega))
    clear hgr hr hT
    go_wp2_with fail
    refine HC2.out.mono ?_
    rintro e w2 ⟨⟨u, rfl, hO⟩, hB2⟩
    have HF : Hid (OwnR w2 w.heap.size u 3 intL 1 (natsI t.reds) ∧ Below w.heap.size w w2) := ⟨⟨hO.1, hO.2.imp id fun ⟨g, cap, cur, h1, h2, h3⟩ => ⟨g, cap, cur, h1, Nat.le_trans hB1.size h2, h3⟩⟩, hB1.trans (hB2.mono hB1.size)⟩
    clear hO hB2
    go_wp2
    go_ret2
    exact ⟨⟨u, by unfold RedB; rw [HG.out]; rfl, by unfold RedL; rw [HR.out]; exact HF.out.1⟩, HF.out.2⟩
end Go.Proofs.Ytnnhedncdpfiaaa
