/-
  What the model says of terms without free variables; IsValue and ApplyTerm of both sides.
-/
import Derived.Test.YtbnagagdboeedaaImplClosed
import Derived.Test.YtbnagagdboeedaaSpecLc
import Derived.Test.YtbnagagdboeedaaCpsMath
namespace Go.Proofs.Ytbnagagdboeedaa
open Go.RowKit BL
set_option linter.unusedVariables false

def clB (l : List Nd) : Bool := (clR l).isSome
set_option maxHeartbeats 4000000 in
theorem leClosed_any (l : List Nd) (v : Value) (w : World) (hv : NdIn w v l) (hl : l.length ≤ 1048576) :
    Calls Try.prog 122 #[v] w fun e w' => e = .returned (.bool (clB l)) ∧ Below w.heap.size w w' := by
  have HC := hideT' (specFreeIn_any l v w hv hl)
  have HN : Hid (clB l = (FrIB l && decide ((FrIL l).length = 0))) := by
    unfold Hid clB
    cases hr : readP' l with
    | none => rw [clR_none hr]; unfold FrIB; rw [hr]; rfl
    | some t =>
      have f1 := readP'_facts hr
      have h1 := FrL_nil f1.2.2.2.1
      have e1 : FrIB l = true := by unfold FrIB; rw [hr]
      have e2 : FrIL l = FrL t := by unfold FrIL; rw [hr]
      rw [e1, e2, Bool.true_and]
      by_cases h0 : t.free 0 = []
      · rw [clR_ok hr h0, h1.2 h0]; rfl
      · rw [clR_no hr h0]
        have : ¬ (FrL t).length = 0 := fun e => h0 (h1.1 (List.length_eq_zero_iff.1 e))
        rw [decide_eq_false this]; rfl
  rw [HN.out]
  obtain ⟨n, hn⟩ : ∃ n, n = (FrIL l).length := ⟨_, rfl⟩
  obtain ⟨q, hq⟩ : ∃ q, q = FrIB l := ⟨_, rfl⟩
  rw [← hn, ← hq]
  rw [← hq] at HC
  have HNL := hideT' hn
  clear hv hn hq
  go_enter Try.func122, Try.ntmps122
  go_wp2_with fail
  refine HC.out.mono ?_
  rintro e w1 ⟨⟨u, rfl, hO⟩, hB1⟩
  obtain ⟨o, cap, rfl⟩ := own_formT hO
  rw [← HNL.out]
  have HB1 := hideT' hB1
  clear hO hB1
  cases q with
  | false =>
    go_wp2
    go_ret
    exact ⟨rfl, HB1.out⟩
  | true =>
    by_cases h0 : n = 0
    · subst h0
      go_wp2
      go_ret
      exact ⟨rfl, HB1.out⟩
    · have hnb : ((n : Int) == 0) = false := by have : ¬ (n : Int) = 0 := (by omega); simpa using this
      have HD : Hid (decide (n = 0) = false) := decide_eq_false h0
      have hni : ¬ (n : Int) = 0 := by omega
      go_wp2
      go_ret
      exact ⟨by rw [HD.out]; rfl, HB1.out⟩
set_option maxHeartbeats 4000000 in
theorem lfClosed_any (l : List Nd) (v : Value) (w : World) (hv : NdIn w v l) (hl : l.length ≤ 1048576) :
    Calls Try.prog 79 #[v] w fun e w' => e = .returned (.bool (clB l)) ∧ Below w.heap.size w w' := by
  have HC := hideT' (leClosed_any l v w hv hl)
  obtain ⟨q, hq⟩ : ∃ q, q = clB l := ⟨_, rfl⟩
  rw [← hq]
  rw [← hq] at HC
  clear hv hq
  go_enter Try.func79, Try.ntmps79
  go_wp2_with fail
  refine HC.out.mono ?_
  rintro e w1 ⟨rfl, hB1⟩
  have HB1 := hideT' hB1
  clear hB1
  go_wp2
  go_ret
  exact ⟨rfl, HB1.out⟩

/-- IsValue. -/
def IsV (l : List Nd) : Bool := match clR l with | none => false | some t => t.isLam
theorem clR_flat {l : List Nd} {t : Lm} (h : clR l = some t) : l = t.flat 0 (-1) := (readP'_facts (clR_some h).1).1
theorem clR_kind {l : List Nd} {t : Lm} (h : clR l = some t) : (ndAt l 0).k = t.kd ∧ 0 < l.length := by
  have h1 := clR_flat h
  have hp := t.sz_pos
  have h2 : Seg l t 0 (-1) := by rw [h1]; exact Seg.whole t
  exact ⟨by rw [h2.nd], by rw [h1, Lm.flat_sz]; exact hp⟩
set_option maxHeartbeats 4000000 in
theorem specIsValue_any (l : List Nd) (v : Value) (w : World) (hv : NdIn w v l) (hl : l.length ≤ 1048576) :
    Calls Try.prog 44 #[v] w fun e w' => e = .returned (.bool (IsV l)) ∧ Below w.heap.size w w' := by
  have HC := hideT' (lfClosed_any l v w hv hl)
  obtain ⟨o, cap, rfl⟩ := hv.len
  have HV := hideT' hv
  cases hr : clR l with
  | none =>
    have HN : Hid (IsV l = false) := by unfold Hid IsV; rw [hr]
    have hcb : clB l = false := by unfold clB; rw [hr]; rfl
    rw [hcb] at HC
    rw [HN.out]
    clear hv hr hcb
    go_enter Try.func44, Try.ntmps44
    go_wp2_with fail
    refine HC.out.mono ?_
    rintro e w1 ⟨rfl, hB1⟩
    have HB1 := hideT' hB1
    clear hB1
    go_wp2
    go_ret
    exact ⟨rfl, HB1.out⟩
  | some t =>
    have HN : Hid (IsV l = (t.kd == 2)) := by unfold Hid IsV; rw [hr]; cases t <;> simp [Lm.isLam, Lm.kd]
    have hcb : clB l = true := by unfold clB; rw [hr]; rfl
    rw [hcb] at HC
    rw [HN.out]
    obtain ⟨hk, hlen⟩ := clR_kind hr
    obtain ⟨kd, hkd⟩ : ∃ kd, kd = t.kd := ⟨_, rfl⟩
    rw [← hkd] at hk ⊢
    have HK := hideT' hk
    obtain ⟨n, hn⟩ : ∃ n, n = l.length := ⟨_, rfl⟩
    rw [← hn] at HC HV hlen ⊢
    have HNN := hideT' hn
    have hni : 0 < (n : Int) := by omega
    clear hv hr hcb hk hkd hn
    go_enter Try.func44, Try.ntmps44
    go_wp2_with fail
    refine HC.out.mono ?_
    rintro e w1 ⟨rfl, hB1⟩
    have HB1 := hideT' hB1
    have hv1 : NdIn w1 (.slice o n cap) l := HV.out.below hB1
    obtain ⟨g, rfl, hg, c0, c1, c2⟩ := NdIn.cells hv1 (i := 0) (by have := HNN.out; omega) (d := ndAt l 0) rfl
    rw [HK.out] at c0
    simp only [Nat.zero_mul] at c0
    clear hB1 hv1 c1 c2
    go_wp2
    go_ret
    exact ⟨rfl, HB1.out⟩
set_option maxHeartbeats 4000000 in
theorem implIsValue_any (l : List Nd) (v : Value) (w : World) (hv : NdIn w v l) (hl : l.length ≤ 1048576) :
    Calls Try.prog 45 #[v] w fun e w' => e = .returned (.bool (IsV l)) ∧ Below w.heap.size w w' := by
  have HC := hideT' (closedTerm_any l v w hv hl)
  clear hv
  go_enter Try.func45, Try.ntmps45
  go_wp2_with fail
  refine HC.out.mono ?_
  rintro e w1 ⟨hans, hB1⟩
  have HB1 := hideT' hB1
  clear hB1
  rcases hans with ⟨p, rfl, hn⟩ | ⟨t, b, rfl, hr, hT⟩
  · have HN : Hid (IsV l = false) := by unfold Hid IsV; rw [hn]
    clear hn
    go_wp2
    go_ret
    exact ⟨by rw [HN.out]; rfl, HB1.out⟩
  · have HN : Hid (IsV l = (t.kd == 2)) := by unfold Hid IsV; rw [hr]; cases t <;> simp [Lm.isLam, Lm.kd]
    have hk := hT.kind
    have hbl := hT.lt
    obtain ⟨kd, hkd⟩ : ∃ kd, kd = t.kd := ⟨_, rfl⟩
    rw [← hkd] at hk HN
    clear hr hT hkd
    go_wp2
    go_ret
    exact ⟨by rw [HN.out]; rfl, HB1.out⟩
end Go.Proofs.Ytbnagagdboeedaa
