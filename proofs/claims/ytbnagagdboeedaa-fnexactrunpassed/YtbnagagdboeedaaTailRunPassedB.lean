/-
  The texts ImplPass, SpecPass, ImplChange, ImplSub, one behind the other, as one.
-/
import Derived.Test.YtbnagagdboeedaaTailRunPassedA
import Derived.Test.YtbnagagdboeedaaSpecSubst
import Derived.Test.YtbnagagdboeedaaImplRep
import Derived.Lib.Walk
import Derived.Lib.SliceRun
import Derived.OwnWalk

/-
  What passed and passedValue of the program make.
-/
namespace Go.Proofs.Ytbnagagdboeedaa
open Go.RowKit BL
set_option linter.unusedVariables false

theorem Lm.lim_bd : ∀ {t : Lm} {B : Nat}, t.lim B → B ≤ 100000 → t.bd
  | .var n, B, h, hb => ⟨by have := h.1; omega, by have := h.2; omega⟩
  | .lam t, B, h, hb => Lm.lim_bd (t := t) h hb
  | .app s t, B, h, hb => ⟨Lm.lim_bd h.1 hb, Lm.lim_bd h.2 hb⟩
theorem pass_bd {t : Lm} (hok : t.ok = true) (hs : t.sz ≤ 1000) : t.pass.bd := Lm.lim_bd (Lm.lim_pass (Lm.ok_lim hok)) (by omega)
def PsC (N : Nat) : Prop := ∀ (t : Lm), t.sz ≤ N → ∀ (b : Nat) (w : World), TrIn w (fun _ => True) t b → t.sz ≤ 1000 → t.ok = true →
    Calls Try.prog 81 #[.pointer (some ⟨b, 0, none⟩)] w fun e w' => (∃ b', e = .returned (.pointer (some ⟨b', 0, none⟩)) ∧ TrIn w' (fun _ => True) t.pass b') ∧ Below w.heap.size w w'
set_option maxHeartbeats 2000000 in
theorem passedValue_of (N : Nat) (H : PsC N) (u : Lm) (hu : u.sz ≤ N) (b : Nat) (w : World) (hT : TrIn w (fun _ => True) (.lam u) b) (hsz : u.sz ≤ 1000) (hok : u.ok = true) :
    Calls Try.prog 83 #[.pointer (some ⟨b, 0, none⟩)] w fun e w' => (∃ b', e = .returned (.pointer (some ⟨b', 0, none⟩)) ∧ TrIn w' (fun _ => True) (.lam u.pass) b') ∧ Below w.heap.size w w' := by
  have HT := hideT' hT
  have HSP : Hid (u.pass.sz ≤ 1000000) := by have := u.pass_sz; unfold Hid; omega
  clear hT
  go_enter Try.func83, Try.ntmps83
  obtain ⟨o, c, hpc, hkid⟩ := HT.out.parts
  simp only [Lm.kids, List.length_cons, List.length_nil, Nat.zero_add] at hpc
  obtain ⟨g, bk100, rfl, hg, _, hcb, hTk⟩ := hkid 0 _ rfl
  have HTK100 := hideT' hTk
  clear hkid hTk
  have HC1 := hideT' (H u hu bk100 w (TrIn.mono (fun _ _ _ => trivial) HTK100.out) hsz hok)
  go_wp2_with fail
  refine HC1.out.mono ?_
  rintro e w1 ⟨⟨b1, rfl, hT⟩, hB⟩
  have HB1 : Hid (Below w.heap.size w w1) := hB
  have HTp1 : Hid (TrIn w1 (fun _ => True) u.pass b1) := TrIn.mono (fun _ _ _ => trivial) hT
  clear hT hB
  clear hpc hcb hg
  have HC2 := hideT' (lambdaTerm_any u.pass b1 _ w1 HTp1.out HSP.out)
  go_wp2_with fail
  refine HC2.out.mono ?_
  rintro e w2 ⟨⟨b2, rfl, hT⟩, hB⟩
  have HB2 : Hid (Below w.heap.size w w2) := HB1.out.trans (hB.mono HB1.out.size)
  have HTl2 : Hid (TrIn w2 (fun _ => True) (.lam u.pass) b2) := TrIn.mono (fun _ _ _ => trivial) hT
  clear hT hB
  have HF := hideT' (And.intro HTl2.out HB2.out)
  go_wp2
  go_ret
  exact ⟨⟨_, rfl, HF.out.1⟩, HF.out.2⟩
set_option maxHeartbeats 8000000 in
set_option maxRecDepth 100000 in
theorem passed_step (N : Nat) (IH : ∀ n, n < N → PsC n) : PsC N := by
  intro t ht b w hT hsz hok
  have HIH := hideT' IH
  have HT := hideT' hT
  have k0 := hT.kind
  have hbl := hT.lt
  clear hT IH
  cases t with
  | var n =>
    simp [Lm.ok] at hok
    simp only [Lm.kd] at k0
    obtain ⟨hn0, hn9⟩ := hok
    have HSH : Hid ((Lm.var n).shift 1 0 = .var (n + 1)) := by unfold Hid; rw [Lm.shift, if_neg (by omega)]
    clear ht hsz
    show Calls Try.prog 81 #[.pointer (some ⟨b, 0, none⟩)] w fun e w' => (∃ b', e = .returned (.pointer (some ⟨b', 0, none⟩)) ∧ TrIn w' (fun _ => True) (.lam (.app (.var 0) (.var (n + 1)))) b') ∧ Below w.heap.size w w'
    go_enter Try.func81, Try.ntmps81
    have HC1 := hideT' (variable_any 0 w)
    go_wp2_with fail
    refine HC1.out.mono ?_
    rintro e w1 ⟨⟨b1, rfl, hT⟩, hB⟩
    have HB1 : Hid (Below w.heap.size w w1) := hB
    have HTt1 : Hid (TrIn w1 (fun _ => True) (.var n) b) := TrIn.keep (w := w) hB.size (fun x _ hx => hB.block x hx) (fun _ _ _ => trivial) HT.out
    have HTv1 : Hid (TrIn w1 (fun _ => True) (.var 0) b1) := TrIn.mono (fun _ _ _ => trivial) hT
    clear hT hB
    have HC2 := hideT' (shifted_any (.var n) b 1 0 w1 HTt1.out (by simp [Lm.sz]) ⟨by omega, by omega⟩ (by omega) (by omega))
    go_wp2_with fail
    refine HC2.out.mono ?_
    rintro e w2 ⟨⟨b2, rfl, hT⟩, hB⟩
    have HB2 : Hid (Below w.heap.size w w2) := HB1.out.trans (hB.mono HB1.out.size)
    have HTv2 : Hid (TrIn w2 (fun _ => True) (.var 0) b1) := TrIn.keep (w := w1) hB.size (fun x _ hx => hB.block x hx) (fun _ _ _ => trivial) HTv1.out
    have HTs2 : Hid (TrIn w2 (fun _ => True) ((Lm.var n).shift 1 0) b2) := TrIn.mono (fun _ _ _ => trivial) hT
    clear hT hB
    rw [HSH.out] at HTs2
    have HC3 := hideT' (application_any (.var 0) (.var (n + 1)) b1 b2 _ w2 HTv2.out HTs2.out (by simp [Lm.sz]) (by simp [Lm.sz]))
    go_wp2_with fail
    refine HC3.out.mono ?_
    rintro e w3 ⟨⟨b3, rfl, hT⟩, hB⟩
    have HB3 : Hid (Below w.heap.size w w3) := HB2.out.trans (hB.mono HB2.out.size)
    have HTa3 : Hid (TrIn w3 (fun _ => True) (.app (.var 0) (.var (n + 1))) b3) := TrIn.mono (fun _ _ _ => trivial) hT
    clear hT hB
    have HC4 := hideT' (lambdaTerm_any (.app (.var 0) (.var (n + 1))) b3 _ w3 HTa3.out (by simp [Lm.sz]))
    go_wp2_with fail
    refine HC4.out.mono ?_
    rintro e w4 ⟨⟨b4, rfl, hT⟩, hB⟩
    have HB4 : Hid (Below w.heap.size w w4) := HB3.out.trans (hB.mono HB3.out.size)
    have HTl4 : Hid (TrIn w4 (fun _ => True) (.lam (.app (.var 0) (.var (n + 1)))) b4) := TrIn.mono (fun _ _ _ => trivial) hT
    clear hT hB
    have HF := hideT' (And.intro HTl4.out HB4.out)
    go_wp2
    go_ret
    exact ⟨⟨_, rfl, HF.out.1⟩, HF.out.2⟩
  | lam u =>
    simp only [Lm.kd] at k0
    have hps := u.pass_sz
    have hbd := pass_bd (t := u) hok (by simp only [Lm.sz] at hsz; omega)
    simp only [Lm.sz] at ht hsz
    have HUN : Hid (u.sz < N) := by unfold Hid; omega
    have HUS : Hid (u.sz ≤ 1000) := by unfold Hid; omega
    have HUO : Hid (u.ok = true) := hok
    have HBD : Hid ((Lm.lam u.pass).bd) := hbd
    have HS1 : Hid ((Lm.lam u.pass).sz ≤ 100000) := by unfold Hid; simp only [Lm.sz]; omega
    have HS2 : Hid (((Lm.lam u.pass).shift 1 0).sz ≤ 1000000) := by unfold Hid; rw [(Lm.shift_sz 1 _ 0).1]; simp only [Lm.sz]; omega
    have HS3 : Hid ((Lm.app (.var 0) ((Lm.lam u.pass).shift 1 0)).sz ≤ 1000000) := by unfold Hid; rw [Lm.sz, (Lm.shift_sz 1 _ 0).1]; simp only [Lm.sz]; omega
    clear ht hsz hok hps hbd
    show Calls Try.prog 81 #[.pointer (some ⟨b, 0, none⟩)] w fun e w' => (∃ b', e = .returned (.pointer (some ⟨b', 0, none⟩)) ∧ TrIn w' (fun _ => True) (.lam (.app (.var 0) ((Lm.lam u.pass).shift 1 0))) b') ∧ Below w.heap.size w w'
    go_enter Try.func81, Try.ntmps81
    have HC1 := hideT' (variable_any 0 w)
    go_wp2_with fail
    refine HC1.out.mono ?_
    rintro e w1 ⟨⟨b1, rfl, hT⟩, hB⟩
    have HB1 : Hid (Below w.heap.size w w1) := hB
    have HTt1 : Hid (TrIn w1 (fun _ => True) (.lam u) b) := TrIn.keep (w := w) hB.size (fun x _ hx => hB.block x hx) (fun _ _ _ => trivial) HT.out
    have HTv1 : Hid (TrIn w1 (fun _ => True) (.var 0) b1) := TrIn.mono (fun _ _ _ => trivial) hT
    clear hT hB
    have HC2 := hideT' (passedValue_of u.sz (HIH.out u.sz HUN.out) u (Nat.le_refl _) b w1 HTt1.out HUS.out HUO.out)
    go_wp2_with fail
    refine HC2.out.mono ?_
    rintro e w2 ⟨⟨b2, rfl, hT⟩, hB⟩
    have HB2 : Hid (Below w.heap.size w w2) := HB1.out.trans (hB.mono HB1.out.size)
    have HTv2 : Hid (TrIn w2 (fun _ => True) (.var 0) b1) := TrIn.keep (w := w1) hB.size (fun x _ hx => hB.block x hx) (fun _ _ _ => trivial) HTv1.out
    have HTp2 : Hid (TrIn w2 (fun _ => True) (.lam u.pass) b2) := TrIn.mono (fun _ _ _ => trivial) hT
    clear hT hB
    have HC3 := hideT' (shifted_any (.lam u.pass) b2 1 0 w2 HTp2.out HS1.out HBD.out (by omega) (by omega))
    go_wp2_with fail
    refine HC3.out.mono ?_
    rintro e w3 ⟨⟨b3, rfl, hT⟩, hB⟩
    have HB3 : Hid (Below w.heap.size w w3) := HB2.out.trans (hB.mono HB2.out.size)
    have HTv3 : Hid (TrIn w3 (fun _ => True) (.var 0) b1) := TrIn.keep (w := w2) hB.size (fun x _ hx => hB.block x hx) (fun _ _ _ => trivial) HTv2.out
    have HTs3 : Hid (TrIn w3 (fun _ => True) ((Lm.lam u.pass).shift 1 0) b3) := TrIn.mono (fun _ _ _ => trivial) hT
    clear hT hB
    have HC4 := hideT' (application_any (.var 0) ((Lm.lam u.pass).shift 1 0) b1 b3 _ w3 HTv3.out HTs3.out (by simp [Lm.sz]) HS2.out)
    go_wp2_with fail
    refine HC4.out.mono ?_
    rintro e w4 ⟨⟨b4, rfl, hT⟩, hB⟩
    have HB4 : Hid (Below w.heap.size w w4) := HB3.out.trans (hB.mono HB3.out.size)
    have HTa4 : Hid (TrIn w4 (fun _ => True) (.app (.var 0) ((Lm.lam u.pass).shift 1 0)) b4) := TrIn.mono (fun _ _ _ => trivial) hT
    clear hT hB
    have HC5 := hideT' (lambdaTerm_any (.app (.var 0) ((Lm.lam u.pass).shift 1 0)) b4 _ w4 HTa4.out HS3.out)
    go_wp2_with fail
    refine HC5.out.mono ?_
    rintro e w5 ⟨⟨b5, rfl, hT⟩, hB⟩
    have HB5 : Hid (Below w.heap.size w w5) := HB4.out.trans (hB.mono HB4.out.size)
    have HTl5 : Hid (TrIn w5 (fun _ => True) (.lam (.app (.var 0) ((Lm.lam u.pass).shift 1 0))) b5) := TrIn.mono (fun _ _ _ => trivial) hT
    clear hT hB
    have HF := hideT' (And.intro HTl5.out HB5.out)
    go_wp2
    go_ret
    exact ⟨⟨_, rfl, HF.out.1⟩, HF.out.2⟩
  | app s u =>
    simp only [Lm.kd] at k0
    simp only [Lm.ok, Bool.and_eq_true] at hok
    have hpu := u.pass_sz
    have hps := s.pass_sz
    have hq := s.sz_pos
    have hr := u.sz_pos
    simp only [Lm.sz] at ht hsz
    have HUN : Hid (u.sz < N) := by unfold Hid; omega
    have HSN : Hid (s.sz < N) := by unfold Hid; omega
    have HUS : Hid (u.sz ≤ 1000) := by unfold Hid; omega
    have HSS : Hid (s.sz ≤ 1000) := by unfold Hid; omega
    have HUO : Hid (u.ok = true) := hok.2
    have HSO : Hid (s.ok = true) := hok.1
    have HBU : Hid (u.pass.bd) := pass_bd hok.2 HUS.out
    have HBS : Hid (s.pass.bd) := pass_bd hok.1 HSS.out
    have e1 := (Lm.shift_sz 2 u.pass 0).1
    have e2 := (Lm.shift_sz 1 s.pass 0).1
    have HSU : Hid (u.pass.sz ≤ 100000) := by unfold Hid; omega
    have HSP : Hid (s.pass.sz ≤ 100000) := by unfold Hid; omega
    have HSU2 : Hid ((u.pass.shift 2 0).sz ≤ 1000000) := by unfold Hid; omega
    have HSP2 : Hid ((s.pass.shift 1 0).sz ≤ 1000000) := by unfold Hid; omega
    have HSL : Hid ((Lm.app (u.pass.shift 2 0) lastT).sz ≤ 1000000) := by unfold Hid; simp only [Lm.sz, lastT]; omega
    have HSL2 : Hid ((Lm.lam (.app (u.pass.shift 2 0) lastT)).sz ≤ 1000000) := by unfold Hid; simp only [Lm.sz, lastT]; omega
    have HSA : Hid ((Lm.app (s.pass.shift 1 0) (.lam (.app (u.pass.shift 2 0) lastT))).sz ≤ 1000000) := by unfold Hid; simp only [Lm.sz, lastT]; omega
    clear ht hsz hok hpu hps hq hr e1 e2
    show Calls Try.prog 81 #[.pointer (some ⟨b, 0, none⟩)] w fun e w' => (∃ b', e = .returned (.pointer (some ⟨b', 0, none⟩)) ∧ TrIn w' (fun _ => True) (.lam (.app (s.pass.shift 1 0) (.lam (.app (u.pass.shift 2 0) lastT)))) b') ∧ Below w.heap.size w w'
    go_enter Try.func81, Try.ntmps81
    have HC1 := hideT' (variable_any 1 w)
    go_wp2_with fail
    refine HC1.out.mono ?_
    rintro e w1 ⟨⟨b1, rfl, hT⟩, hB⟩
    have HB1 : Hid (Below w.heap.size w w1) := hB
    have HTt1 : Hid (TrIn w1 (fun _ => True) (.app s u) b) := TrIn.keep (w := w) hB.size (fun x _ hx => hB.block x hx) (fun _ _ _ => trivial) HT.out
    have HTx1 : Hid (TrIn w1 (fun _ => True) (.var 1) b1) := TrIn.mono (fun _ _ _ => trivial) hT
    clear hT hB
    have HC2 := hideT' (variable_any 0 w1)
    go_wp2_with fail
    refine HC2.out.mono ?_
    rintro e w2 ⟨⟨b2, rfl, hT⟩, hB⟩
    have HB2 : Hid (Below w.heap.size w w2) := HB1.out.trans (hB.mono HB1.out.size)
    have HTt2 : Hid (TrIn w2 (fun _ => True) (.app s u) b) := TrIn.keep (w := w1) hB.size (fun x _ hx => hB.block x hx) (fun _ _ _ => trivial) HTt1.out
    have HTx2 : Hid (TrIn w2 (fun _ => True) (.var 1) b1) := TrIn.keep (w := w1) hB.size (fun x _ hx => hB.block x hx) (fun _ _ _ => trivial) HTx1.out
    have HTy2 : Hid (TrIn w2 (fun _ => True) (.var 0) b2) := TrIn.mono (fun _ _ _ => trivial) hT
    clear hT hB
    have HC3 := hideT' (application_any (.var 1) (.var 0) b1 b2 _ w2 HTx2.out HTy2.out (by simp [Lm.sz]) (by simp [Lm.sz]))
    go_wp2_with fail
    refine HC3.out.mono ?_
    rintro e w3 ⟨⟨b3, rfl, hT⟩, hB⟩
    have HB3 : Hid (Below w.heap.size w w3) := HB2.out.trans (hB.mono HB2.out.size)
    have HTt3 : Hid (TrIn w3 (fun _ => True) (.app s u) b) := TrIn.keep (w := w2) hB.size (fun x _ hx => hB.block x hx) (fun _ _ _ => trivial) HTt2.out
    have HTxy3 : Hid (TrIn w3 (fun _ => True) (.app (.var 1) (.var 0)) b3) := TrIn.mono (fun _ _ _ => trivial) hT
    clear hT hB
    have HC4 := hideT' (variable_any 2 w3)
    go_wp2_with fail
    refine HC4.out.mono ?_
    rintro e w4 ⟨⟨b4, rfl, hT⟩, hB⟩
    have HB4 : Hid (Below w.heap.size w w4) := HB3.out.trans (hB.mono HB3.out.size)
    have HTt4 : Hid (TrIn w4 (fun _ => True) (.app s u) b) := TrIn.keep (w := w3) hB.size (fun x _ hx => hB.block x hx) (fun _ _ _ => trivial) HTt3.out
    have HTxy4 : Hid (TrIn w4 (fun _ => True) (.app (.var 1) (.var 0)) b3) := TrIn.keep (w := w3) hB.size (fun x _ hx => hB.block x hx) (fun _ _ _ => trivial) HTxy3.out
    have HTz4 : Hid (TrIn w4 (fun _ => True) (.var 2) b4) := TrIn.mono (fun _ _ _ => trivial) hT
    clear hT hB
    have HC5 := hideT' (application_any (.app (.var 1) (.var 0)) (.var 2) b3 b4 _ w4 HTxy4.out HTz4.out (by simp [Lm.sz]) (by simp [Lm.sz]))
    go_wp2_with fail
    refine HC5.out.mono ?_
    rintro e w5 ⟨⟨b5, rfl, hT⟩, hB⟩
    have HB5 : Hid (Below w.heap.size w w5) := HB4.out.trans (hB.mono HB4.out.size)
    have HTt5 : Hid (TrIn w5 (fun _ => True) (.app s u) b) := TrIn.keep (w := w4) hB.size (fun x _ hx => hB.block x hx) (fun _ _ _ => trivial) HTt4.out
    have HTc5 : Hid (TrIn w5 (fun _ => True) (.app (.app (.var 1) (.var 0)) (.var 2)) b5) := TrIn.mono (fun _ _ _ => trivial) hT
    clear hT hB
    obtain ⟨o, c, hpc, hkid⟩ := HTt5.out.parts
    simp only [Lm.kids, List.length_cons, List.length_nil, Nat.zero_add, Nat.reduceAdd] at hpc
    obtain ⟨g, bk106, rfl, hg, _, hcb, hTk⟩ := hkid 1 _ rfl
    have HTK106 := hideT' hTk
    clear hkid hTk
    have HC6 := hideT' (HIH.out u.sz HUN.out u (Nat.le_refl _) bk106 w5 (TrIn.mono (fun _ _ _ => trivial) HTK106.out) HUS.out HUO.out)
    go_wp2_with fail
    refine HC6.out.mono ?_
    rintro e w6 ⟨⟨b6, rfl, hT⟩, hB⟩
    have HB6 : Hid (Below w.heap.size w w6) := HB5.out.trans (hB.mono HB5.out.size)
    have HTt6 : Hid (TrIn w6 (fun _ => True) (.app s u) b) := TrIn.keep (w := w5) hB.size (fun x _ hx => hB.block x hx) (fun _ _ _ => trivial) HTt5.out
    have HTc6 : Hid (TrIn w6 (fun _ => True) (.app (.app (.var 1) (.var 0)) (.var 2)) b5) := TrIn.keep (w := w5) hB.size (fun x _ hx => hB.block x hx) (fun _ _ _ => trivial) HTc5.out
    have HTp6 : Hid (TrIn w6 (fun _ => True) u.pass b6) := TrIn.mono (fun _ _ _ => trivial) hT
    clear hT hB
    clear hpc hcb hg
    have HC7 := hideT' (shifted_any u.pass b6 2 0 w6 HTp6.out HSU.out HBU.out (by omega) (by omega))
    go_wp2_with fail
    refine HC7.out.mono ?_
    rintro e w7 ⟨⟨b7, rfl, hT⟩, hB⟩
    have HB7 : Hid (Below w.heap.size w w7) := HB6.out.trans (hB.mono HB6.out.size)
    have HTt7 : Hid (TrIn w7 (fun _ => True) (.app s u) b) := TrIn.keep (w := w6) hB.size (fun x _ hx => hB.block x hx) (fun _ _ _ => trivial) HTt6.out
    have HTc7 : Hid (TrIn w7 (fun _ => True) (.app (.app (.var 1) (.var 0)) (.var 2)) b5) := TrIn.keep (w := w6) hB.size (fun x _ hx => hB.block x hx) (fun _ _ _ => trivial) HTc6.out
    have HTq7 : Hid (TrIn w7 (fun _ => True) (u.pass.shift 2 0) b7) := TrIn.mono (fun _ _ _ => trivial) hT
    clear hT hB
    have HC8 := hideT' (lambdaTerm_any (.app (.app (.var 1) (.var 0)) (.var 2)) b5 _ w7 HTc7.out (by simp [Lm.sz]))
    go_wp2_with fail
    refine HC8.out.mono ?_
    rintro e w8 ⟨⟨b8, rfl, hT⟩, hB⟩
    have HB8 : Hid (Below w.heap.size w w8) := HB7.out.trans (hB.mono HB7.out.size)
    have HTt8 : Hid (TrIn w8 (fun _ => True) (.app s u) b) := TrIn.keep (w := w7) hB.size (fun x _ hx => hB.block x hx) (fun _ _ _ => trivial) HTt7.out
    have HTq8 : Hid (TrIn w8 (fun _ => True) (u.pass.shift 2 0) b7) := TrIn.keep (w := w7) hB.size (fun x _ hx => hB.block x hx) (fun _ _ _ => trivial) HTq7.out
    have HTd8 : Hid (TrIn w8 (fun _ => True) lastT b8) := TrIn.mono (fun _ _ _ => trivial) hT
    clear hT hB
    have HC9 := hideT' (application_any (u.pass.shift 2 0) lastT b7 b8 _ w8 HTq8.out HTd8.out HSU2.out (by simp [lastT, Lm.sz]))
    go_wp2_with fail
    refine HC9.out.mono ?_
    rintro e w9 ⟨⟨b9, rfl, hT⟩, hB⟩
    have HB9 : Hid (Below w.heap.size w w9) := HB8.out.trans (hB.mono HB8.out.size)
    have HTt9 : Hid (TrIn w9 (fun _ => True) (.app s u) b) := TrIn.keep (w := w8) hB.size (fun x _ hx => hB.block x hx) (fun _ _ _ => trivial) HTt8.out
    have HTe9 : Hid (TrIn w9 (fun _ => True) (.app (u.pass.shift 2 0) lastT) b9) := TrIn.mono (fun _ _ _ => trivial) hT
    clear hT hB
    obtain ⟨o, c, hpc, hkid⟩ := HTt9.out.parts
    simp only [Lm.kids, List.length_cons, List.length_nil, Nat.zero_add, Nat.reduceAdd] at hpc
    obtain ⟨g, bk109, rfl, hg, _, hcb, hTk⟩ := hkid 0 _ rfl
    have HTK109 := hideT' hTk
    clear hkid hTk
    have HC10 := hideT' (HIH.out s.sz HSN.out s (Nat.le_refl _) bk109 w9 (TrIn.mono (fun _ _ _ => trivial) HTK109.out) HSS.out HSO.out)
    go_wp2_with fail
    refine HC10.out.mono ?_
    rintro e w10 ⟨⟨b10, rfl, hT⟩, hB⟩
    have HB10 : Hid (Below w.heap.size w w10) := HB9.out.trans (hB.mono HB9.out.size)
    have HTe10 : Hid (TrIn w10 (fun _ => True) (.app (u.pass.shift 2 0) lastT) b9) := TrIn.keep (w := w9) hB.size (fun x _ hx => hB.block x hx) (fun _ _ _ => trivial) HTe9.out
    have HTp10 : Hid (TrIn w10 (fun _ => True) s.pass b10) := TrIn.mono (fun _ _ _ => trivial) hT
    clear hT hB
    clear hpc hcb hg
    have HC11 := hideT' (shifted_any s.pass b10 1 0 w10 HTp10.out HSP.out HBS.out (by omega) (by omega))
    go_wp2_with fail
    refine HC11.out.mono ?_
    rintro e w11 ⟨⟨b11, rfl, hT⟩, hB⟩
    have HB11 : Hid (Below w.heap.size w w11) := HB10.out.trans (hB.mono HB10.out.size)
    have HTe11 : Hid (TrIn w11 (fun _ => True) (.app (u.pass.shift 2 0) lastT) b9) := TrIn.keep (w := w10) hB.size (fun x _ hx => hB.block x hx) (fun _ _ _ => trivial) HTe10.out
    have HTq11 : Hid (TrIn w11 (fun _ => True) (s.pass.shift 1 0) b11) := TrIn.mono (fun _ _ _ => trivial) hT
    clear hT hB
    have HC12 := hideT' (lambdaTerm_any (.app (u.pass.shift 2 0) lastT) b9 _ w11 HTe11.out HSL.out)
    go_wp2_with fail
    refine HC12.out.mono ?_
    rintro e w12 ⟨⟨b12, rfl, hT⟩, hB⟩
    have HB12 : Hid (Below w.heap.size w w12) := HB11.out.trans (hB.mono HB11.out.size)
    have HTq12 : Hid (TrIn w12 (fun _ => True) (s.pass.shift 1 0) b11) := TrIn.keep (w := w11) hB.size (fun x _ hx => hB.block x hx) (fun _ _ _ => trivial) HTq11.out
    have HTf12 : Hid (TrIn w12 (fun _ => True) (.lam (.app (u.pass.shift 2 0) lastT)) b12) := TrIn.mono (fun _ _ _ => trivial) hT
    clear hT hB
    have HC13 := hideT' (application_any (s.pass.shift 1 0) (.lam (.app (u.pass.shift 2 0) lastT)) b11 b12 _ w12 HTq12.out HTf12.out HSP2.out HSL2.out)
    go_wp2_with fail
    refine HC13.out.mono ?_
    rintro e w13 ⟨⟨b13, rfl, hT⟩, hB⟩
    have HB13 : Hid (Below w.heap.size w w13) := HB12.out.trans (hB.mono HB12.out.size)
    have HTh13 : Hid (TrIn w13 (fun _ => True) (.app (s.pass.shift 1 0) (.lam (.app (u.pass.shift 2 0) lastT))) b13) := TrIn.mono (fun _ _ _ => trivial) hT
    clear hT hB
    have HC14 := hideT' (lambdaTerm_any (.app (s.pass.shift 1 0) (.lam (.app (u.pass.shift 2 0) lastT))) b13 _ w13 HTh13.out HSA.out)
    go_wp2_with fail
    refine HC14.out.mono ?_
    rintro e w14 ⟨⟨b14, rfl, hT⟩, hB⟩
    have HB14 : Hid (Below w.heap.size w w14) := HB13.out.trans (hB.mono HB13.out.size)
    have HTl14 : Hid (TrIn w14 (fun _ => True) (.lam (.app (s.pass.shift 1 0) (.lam (.app (u.pass.shift 2 0) lastT)))) b14) := TrIn.mono (fun _ _ _ => trivial) hT
    clear hT hB
    have HF := hideT' (And.intro HTl14.out HB14.out)
    go_wp2
    go_ret
    exact ⟨⟨_, rfl, HF.out.1⟩, HF.out.2⟩
theorem passed_all : ∀ N, PsC N := by
  intro N
  induction N using Nat.strongRecOn with
  | _ N IH => exact passed_step N IH
end Go.Proofs.Ytbnagagdboeedaa

/-
  What lfUp and lfPass of the model make.
-/
namespace Go.Proofs.Ytbnagagdboeedaa
open Go.RowKit BL
set_option linter.unusedVariables false

theorem below9 {w B v w9 : World} {r : Nat} (h1 : Below w.heap.size w B) (hr : w.heap.size ≤ r) (hg : v.grownBy w9 (some r)) (hb : Below B.heap.size B v) : Below w.heap.size w w9 := by
  have h2 := h1.trans (hb.mono h1.size)
  exact h2.grown hg h2.size (fun k e => by cases e; exact hr)
theorem lcIn_var {w : World} {P : Nat → Prop} (n : Int) : LcIn w P (.var n) (.slice none 0 0) := ⟨none, 0, rfl⟩
set_option maxHeartbeats 4000000 in
set_option maxRecDepth 100000 in
theorem lfUp_any (t : Lm) (d : Int) (hd : 0 ≤ d ∧ d ≤ 1000) (z : Value) (P : Nat → Prop) (w : World) (hz : LcIn w P t z) (hbd : t.bd) (hs : t.sz ≤ 100000) :
    Calls Try.prog 123 #[.agg (lcC t.kd t.nm z), .int .i64 d] w fun e w' => (∃ z', e = .returned (.agg (lcC (t.shift d 0).kd (t.shift d 0).nm z')) ∧ LcIn w' (fun x => P x ∨ w.heap.size ≤ x) (t.shift d 0) z') ∧ Below w.heap.size w w' := by
  have hz0 := zero_lcT.1
  obtain ⟨oz, cz, rfl⟩ := hz.form
  obtain ⟨W, hWd⟩ : ∃ W, W = (w.alloc (.cells #[.int .i64 t.kd, .int .i64 t.nm, .slice oz t.kids.length cz] 54)).alloc (.cells #[.int .i64 0, .int .i64 0, .slice none 0 0] 54) := ⟨_, rfl⟩
  have hBW : Below w.heap.size w W := by rw [hWd]; exact ((Below.refl _ _).alloc (Nat.le_refl _) _).alloc (by simp) _
  have hWs : W.heap.size = w.heap.size + 2 := by rw [hWd]; simp
  have hR1 : RowAt W (w.heap.size + 1) 54 #[.int .i64 0, .int .i64 0, .slice none 0 0] := by
    rw [hWd]
    have := RowAt.new (w.alloc (.cells #[.int .i64 t.kd, .int .i64 t.nm, .slice oz t.kids.length cz] 54)) 54 #[.int .i64 0, .int .i64 0, .slice none 0 0]
    rwa [World.size_alloc] at this
  have HC := hideT' (lcShift_all d ⟨by omega, by omega⟩ t.sz t (Nat.le_refl _) 0 _ (fun x => P x ∧ x < w.heap.size) W (LcIn.keep (w := w) hBW.size (fun x _ hl => hBW.block x hl) (fun x h hl => ⟨h, hl⟩) hz) hbd (by omega) (by omega))
  have HUP : Hid (t.shiftOk d 0 = true) := Lm.shiftOk_up d hd.1 t 0
  obtain ⟨D, hD⟩ : ∃ D, D = t.shift d 0 := ⟨_, rfl⟩
  have HD := hideT' hD
  obtain ⟨kd, hkd⟩ : ∃ kd, kd = t.kd := ⟨_, rfl⟩
  obtain ⟨nm, hnm⟩ : ∃ nm, nm = t.nm := ⟨_, rfl⟩
  obtain ⟨ln, hln⟩ : ∃ ln, ln = t.kids.length := ⟨_, rfl⟩
  rw [← hkd, ← hnm, ← hln] at HC hWd
  rw [← hkd, ← hnm, ← hln, ← hD]
  have HBW := hideT' hBW
  have HR1 := hideT' hR1
  have HWS := hideT' hWs
  clear hz hbd hs hD hkd hnm hln hBW hR1 hWs
  unfold lcC at HC ⊢
  go_enter Try.func123, Try.ntmps123
  go_wp2_with fail
  rw [← hWd]
  refine HC.out.mono ?_
  rintro e w2 ⟨hans, hB2⟩
  rcases hans with ⟨_, z2, rfl, hz2⟩ | ⟨hno, _⟩
  · rw [← HD.out] at hz2 ⊢
    obtain ⟨o2, c2, rfl⟩ := hz2.form
    obtain ⟨k2, hk2⟩ : ∃ k2, k2 = D.kd := ⟨_, rfl⟩
    obtain ⟨n2, hn2⟩ : ∃ n2, n2 = D.nm := ⟨_, rfl⟩
    obtain ⟨l2, hl2⟩ : ∃ l2, l2 = D.kids.length := ⟨_, rfl⟩
    rw [← hk2, ← hn2, ← hl2]
    rw [← hl2] at hz2
    unfold lcC
    obtain ⟨w3, hw3⟩ : ∃ w3, w3 = w2.alloc (.cells #[.int .i64 k2, .int .i64 n2, .slice o2 l2 c2] 54) := ⟨_, rfl⟩
    have hB3 : Below w2.heap.size w2 w3 := by rw [hw3]; exact (Below.refl _ _).alloc (Nat.le_refl _) _
    have HRW : Hid (RowAt w3 w2.heap.size 54 #[.int .i64 k2, .int .i64 n2, .slice o2 l2 c2]) := by unfold Hid; rw [hw3]; exact RowAt.new _ _ _
    have HRZ : Hid (RowAt w3 (w.heap.size + 1) 54 #[.int .i64 0, .int .i64 0, .slice none 0 0]) := (HR1.out.below hB2 HR1.out.lt).below hB3 (by have := HR1.out.lt; have := hB2.size; omega)
    have HRZ2 : Hid (RowAt (w2.alloc (.cells #[.int .i64 k2, .int .i64 n2, .slice o2 l2 c2] 54)) (w.heap.size + 1) 54 #[.int .i64 0, .int .i64 0, .slice none 0 0]) := by have := HRZ.out; rw [hw3] at this; exact this
    have HW3 := hideT' hw3
    have HZ3 : Hid (LcIn w3 (fun x => (P x ∧ x < w.heap.size) ∨ w.heap.size + 2 ≤ x) D (.slice o2 l2 c2)) := LcIn.mono (fun x hx _ => hx.imp id (fun h => by have := HWS.out; omega)) (LcIn.below hB3 hz2)
    have HB3 : Hid (Below w.heap.size w w3) := (HBW.out.trans (hB2.mono HBW.out.size)).trans (hB3.mono (HBW.out.trans (hB2.mono HBW.out.size)).size)
    have HKN : Hid (D.kd = k2 ∧ D.nm = n2) := ⟨hk2.symm, hn2.symm⟩
    clear hz2 hB2 hB3 hk2 hn2 hl2 hw3
    go_wp2_with ((refine store_3 rfl 54 _ _ rfl rfl zero_lcT.2 (w.heap.size + 1) (lcC k2 n2 (.slice o2 l2 c2)) rfl (lcC_one _ _ _ rfl) rfl rfl _ rfl HRZ2.out ?_; intro w9 hR9 hg9 hs9))
    rw [← HW3.out] at hg9 hs9
    refine bodyPost_ret (v := .agg (lcC k2 n2 (.slice o2 l2 c2))) (results_cell_row Try.results123 _ _ (w.heap.size + 1) 54 (lcC k2 n2 (.slice o2 l2 c2)) (0, 0) _ rfl hR9 Try.underlying54 rfl zero_lcT.2) rfl ⟨⟨.slice o2 l2 c2, by rw [HKN.out.1, HKN.out.2]; rfl, ?_⟩, HB3.out.grown hg9 HB3.out.size (fun k e => by cases e; omega)⟩
    exact LcIn.keep (w := w3) (by omega) (fun x hx hl => hg9.block x hl (by intro e; injection e with e; rcases hx with hx | hx <;> omega)) (fun x hx _ => by rcases hx with hx | hx; exact .inl hx.1; exact .inr (by omega)) HZ3.out
  · rw [HUP.out] at hno; cases hno
theorem lfUp_lam (b : Lm) (d : Int) (hd : 0 ≤ d ∧ d ≤ 1000) (z : Value) (P : Nat → Prop) (w : World) (hz : LcIn w P (.lam b) z) (hbd : b.bd) (hs : (Lm.lam b).sz ≤ 100000) :
    Calls Try.prog 123 #[.agg (lcC 2 0 z), .int .i64 d] w fun e w' => (∃ z', e = .returned (.agg (lcC 2 0 z')) ∧ LcIn w' (fun x => P x ∨ w.heap.size ≤ x) ((Lm.lam b).shift d 0) z') ∧ Below w.heap.size w w' :=
  lfUp_any (.lam b) d hd z P w hz hbd hs
def PlC (N : Nat) : Prop := ∀ (t : Lm), t.sz ≤ N → ∀ (z : Value) (P : Nat → Prop) (w : World), LcIn w P t z → t.sz ≤ 1000 → t.ok = true →
    Calls Try.prog 80 #[.agg (lcC t.kd t.nm z)] w fun e w' => (∃ z', e = .returned (.agg (lcC 2 0 z')) ∧ LcIn w' (fun x => P x ∨ w.heap.size ≤ x) t.pass z') ∧ Below w.heap.size w w'
theorem PlC.lam {N : Nat} (H : PlC N) {u : Lm} (hu : u.sz ≤ N) (hs : u.sz ≤ 1000) (hok : u.ok = true) {pu : Lm} (hpu : u.pass = .lam pu) (z : Value) (P : Nat → Prop) (w : World) (hz : LcIn w P u z) :
    Calls Try.prog 80 #[.agg (lcC u.kd u.nm z)] w fun e w' => (∃ z', e = .returned (.agg (lcC 2 0 z')) ∧ LcIn w' (fun x => P x ∨ w.heap.size ≤ x) (.lam pu) z') ∧ Below w.heap.size w w' := by
  rw [← hpu]; exact H u hu z P w hz hs hok
theorem pass_lam (u : Lm) : ∃ pu, u.pass = .lam pu := by cases u <;> exact ⟨_, rfl⟩
set_option maxHeartbeats 16000000 in
set_option maxRecDepth 100000 in
theorem lfPass_step (N : Nat) (IH : ∀ n, n < N → PlC n) : PlC N := by
  intro t ht z P w hz hsz hok
  have HIH := hideT' IH
  have hz0 := zero_lcT.1
  clear IH
  cases t with
  | var n =>
    obtain ⟨oz, cz, rfl⟩ := hz
    simp [Lm.ok] at hok
    obtain ⟨hn0, hn9⟩ := hok
    have hw1 : IntKind.i64.wrap (n + 1) = n + 1 := by rw [IntKind.wrap_i64]; omega
    obtain ⟨W, hWd⟩ : ∃ W, W = (w.alloc (.cells #[.int .i64 1, .int .i64 n, .slice oz 0 cz] 54)).alloc (.cells #[.int .i64 0, .int .i64 0, .slice none 0 0] 54) := ⟨_, rfl⟩
    have hBW : Below w.heap.size w W := by rw [hWd]; exact ((Below.refl _ _).alloc (Nat.le_refl _) _).alloc (by simp) _
    have hWs : W.heap.size = w.heap.size + 2 := by rw [hWd]; simp
    have hR0 : RowAt W w.heap.size 54 #[.int .i64 1, .int .i64 n, .slice oz 0 cz] := by rw [hWd]; exact RowAt.old (RowAt.new _ _ _) _
    have hRz : RowAt W (w.heap.size + 1) 54 #[.int .i64 0, .int .i64 0, .slice none 0 0] := by
      rw [hWd]
      have := RowAt.new (w.alloc (.cells #[.int .i64 1, .int .i64 n, .slice oz 0 cz] 54)) 54 #[.int .i64 0, .int .i64 0, .slice none 0 0]
      rwa [World.size_alloc] at this
    have t1 : W.cell? ⟨w.heap.size, 1, none⟩ = some (.int .i64 n) := by rw [cell_of_row _ _ _ _ _ _ hR0]; rfl
    have HBW := hideT' hBW
    clear ht hsz hBW hR0
    show Calls Try.prog 80 #[.agg #[.int .i64 1, .int .i64 n, .slice oz 0 cz]] w fun e w' => (∃ z', e = .returned (.agg (lcC 2 0 z')) ∧ LcIn w' (fun x => P x ∨ w.heap.size ≤ x) (.lam (.app (.var 0) (.var (n + 1)))) z') ∧ Below w.heap.size w w'
    go_enter Try.func80, Try.ntmps80
    go_wp2_with fail
    rw [← hWd]
    have hS : ∀ x, x < W.heap.size → x ≠ w.heap.size + 1 → W.drew.heap[x]? = W.heap[x]? := fun _ _ _ => rfl
    refine held_begin (fun w' => ∀ x, x < W.heap.size → x ≠ w.heap.size + 1 → w'.heap[x]? = W.heap[x]?) (by kernel_rfl) ?_
    have hXd : W.drew.heap.size = W.heap.size := rfl
    refine held_valS 1 (some 11) rfl rfl (by kernel_rfl) (by kernel_rfl) (by kernel_rfl) noPanic_put rfl (.pointer (some ⟨w.heap.size, 1, none⟩)) (fun _ _ => by go_simp) hS ?_
    simp only [Act.put, List.setIfInBounds_toArray, List.set_cons_zero, List.set_cons_succ]
    refine held_valS 2 (some 12) rfl rfl (by kernel_rfl) (by kernel_rfl) (by kernel_rfl) noPanic_put rfl (.int .i64 n) (fun w' h => by have q := ((World.cell?_of_block (w := W) (a := ⟨w.heap.size, 1, none⟩) (h (w.heap.size) (by omega) (by omega))).trans t1); go_simp) hS ?_
    simp only [Act.put, List.setIfInBounds_toArray, List.set_cons_zero, List.set_cons_succ]
    refine held_valS 3 (some 13) rfl rfl (by kernel_rfl) (by kernel_rfl) (by kernel_rfl) noPanic_put rfl (.int .i64 (n + 1)) (fun _ _ => by go_simp) hS ?_
    simp only [Act.put, List.setIfInBounds_toArray, List.set_cons_zero, List.set_cons_succ]
    refine held_call 0 (some 10) (by kernel_rfl) rfl rfl rfl 86 #[.int .i64 0] (by go_simp) _ (lcVar_any 0 W.drew) ?_
    rintro e v1 ⟨rfl, hw1⟩
    have hw1 : Below W.heap.size W v1 := ⟨hw1.os, hw1.tape, hw1.output, hw1.size, hw1.block⟩
    have hsz1 := hw1.size
    have hS1 : ∀ x, x < W.heap.size → x ≠ w.heap.size + 1 → v1.heap[x]? = W.heap[x]? := fun x hx hn => (hw1.block x (by omega)).trans (hS x hx hn)
    have hRz1 : RowAt v1 (w.heap.size + 1) 54 #[.int .i64 0, .int .i64 0, .slice none 0 0] := hRz.below hw1 (by omega)
    refine ⟨_, rfl, hS1, ?_⟩
    simp only [Act.put, List.setIfInBounds_toArray, List.set_cons_zero, List.set_cons_succ]
    refine held_call 4 (some 14) (by kernel_rfl) rfl rfl rfl 86 #[.int .i64 (n + 1)] (by go_simp) _ (lcVar_any (n + 1) v1) ?_
    rintro e v2 ⟨rfl, hw2⟩
    have hsz2 := hw2.size
    have hS2 : ∀ x, x < W.heap.size → x ≠ w.heap.size + 1 → v2.heap[x]? = W.heap[x]? := fun x hx hn => (hw2.block x (by omega)).trans (hS1 x hx hn)
    have hRz2 : RowAt v2 (w.heap.size + 1) 54 #[.int .i64 0, .int .i64 0, .slice none 0 0] := hRz1.below hw2 (by omega)
    refine ⟨_, rfl, hS2, ?_⟩
    simp only [Act.put, List.setIfInBounds_toArray, List.set_cons_zero, List.set_cons_succ]
    refine held_call 5 (some 15) (by kernel_rfl) rfl rfl rfl 84 #[.agg (lcC 1 0 (.slice none 0 0)), .agg (lcC 1 (n + 1) (.slice none 0 0))] (by go_simp) _ (lcApp_any (.var 0) (.var (n + 1)) _ _ (fun x => (P x ∧ x < w.heap.size) ∨ w.heap.size + 2 ≤ x) v2 (lcIn_var _) (lcIn_var _)) ?_
    rintro e v3 ⟨⟨z3, rfl, hz3⟩, hw3⟩
    have hsz3 := hw3.size
    have hS3 : ∀ x, x < W.heap.size → x ≠ w.heap.size + 1 → v3.heap[x]? = W.heap[x]? := fun x hx hn => (hw3.block x (by omega)).trans (hS2 x hx hn)
    have hRz3 : RowAt v3 (w.heap.size + 1) 54 #[.int .i64 0, .int .i64 0, .slice none 0 0] := hRz2.below hw3 (by omega)
    obtain ⟨oo3, cc3, hzz3⟩ : ∃ o c, z3 = .slice o 2 c := hz3.form
    subst hzz3
    have h15_3 : LcIn v3 (fun x => (P x ∧ x < w.heap.size) ∨ w.heap.size + 2 ≤ x) (.app (.var 0) (.var (n + 1))) (.slice oo3 2 cc3) := LcIn.mono (fun x hx _ => by rcases hx with hx | hx; exact hx; exact .inr (by omega)) hz3
    refine ⟨_, rfl, hS3, ?_⟩
    simp only [Act.put, List.setIfInBounds_toArray, List.set_cons_zero, List.set_cons_succ]
    refine held_call 6 (some 16) (by kernel_rfl) rfl rfl rfl 82 #[.agg (lcC 3 0 (.slice oo3 2 cc3))] (by go_simp) _ (lcLam_any (.app (.var 0) (.var (n + 1))) _ (fun x => (P x ∧ x < w.heap.size) ∨ w.heap.size + 2 ≤ x) v3 h15_3) ?_
    rintro e v4 ⟨⟨z4, rfl, hz4⟩, hw4⟩
    have hsz4 := hw4.size
    have hS4 : ∀ x, x < W.heap.size → x ≠ w.heap.size + 1 → v4.heap[x]? = W.heap[x]? := fun x hx hn => (hw4.block x (by omega)).trans (hS3 x hx hn)
    have hRz4 : RowAt v4 (w.heap.size + 1) 54 #[.int .i64 0, .int .i64 0, .slice none 0 0] := hRz3.below hw4 (by omega)
    have h15_4 : LcIn v4 (fun x => (P x ∧ x < w.heap.size) ∨ w.heap.size + 2 ≤ x) (.app (.var 0) (.var (n + 1))) (.slice oo3 2 cc3) := LcIn.below hw4 h15_3
    obtain ⟨oo4, cc4, hzz4⟩ : ∃ o c, z4 = .slice o 1 c := hz4.form
    subst hzz4
    have h16_4 : LcIn v4 (fun x => (P x ∧ x < w.heap.size) ∨ w.heap.size + 2 ≤ x) (.lam (.app (.var 0) (.var (n + 1)))) (.slice oo4 1 cc4) := LcIn.mono (fun x hx _ => by rcases hx with hx | hx; exact hx; exact .inr (by omega)) hz4
    refine ⟨_, rfl, hS4, ?_⟩
    simp only [Act.put, List.setIfInBounds_toArray, List.set_cons_zero, List.set_cons_succ]
    have hb9 : Below W.heap.size W v4 := ((hw1.trans (hw2.mono hw1.size)).trans (hw3.mono (by omega))).trans (hw4.mono (by omega))
    refine held_one 7 (by kernel_rfl) rfl rfl ?_
    intro K hK
    refine store_3_wp 54 (.tmp 2) (.tmp 16) rfl rfl zero_lcT.2 (w.heap.size + 1) (lcC 2 0 (.slice oo4 1 cc4)) rfl (lcC_one _ _ _ rfl) rfl rfl #[.int .i64 0, .int .i64 0, .slice none 0 0] rfl hRz4 ?_
    intro w9 hR9 hg9 hs9
    have hS9 : ∀ x, x < W.heap.size → x ≠ w.heap.size + 1 → w9.heap[x]? = W.heap[x]? := fun x hx hn => by rw [hg9.block x (by omega) (by intro e; injection e with e; exact hn e)]; exact hS4 x hx hn
    refine hK.out _ _ hS9 ?_
    refine wpAnyH_done (by kernel_rfl) ?_ _
    refine NoPanic.normal ?_
    have hB9 : Below w.heap.size w w9 := by
      have h1 : Below w.heap.size w W := HBW.out
      exact below9 h1 (by omega) hg9 hb9
    have HF : Hid (LcIn w9 (fun x => P x ∨ w.heap.size ≤ x) (.lam (.app (.var 0) (.var (n + 1)))) (.slice oo4 1 cc4) ∧ Below w.heap.size w w9 ∧ RowAt w9 (w.heap.size + 1) 54 (lcC 2 0 (.slice oo4 1 cc4))) := ⟨LcIn.keep (w := v4) (by omega) (fun x hx hl => hg9.block x hl (by intro e; injection e with e; rcases hx with hx | hx <;> omega)) (fun x hx _ => by rcases hx with hx | hx; exact .inl hx.1; exact .inr (by omega)) h16_4, hB9, hR9⟩
    clear hK hS hS1 hS2 hS3 hS4 hS9 hz3 hz4 hw1 hw2 hw3 hw4 hg9 hR9 hRz1 hRz2 hRz3 hRz4 hRz h15_3 h15_4 h16_4 hb9 hB9
    go_wp2
    exact bodyPost_ret (v := .agg (lcC 2 0 (.slice oo4 1 cc4))) (results_cell_row Try.results80 _ _ (w.heap.size + 1) 54 (lcC 2 0 (.slice oo4 1 cc4)) (0, 0) _ rfl HF.out.2.2 Try.underlying54 rfl zero_lcT.2) rfl ⟨⟨_, rfl, HF.out.1⟩, HF.out.2.1⟩
  | lam u =>
    obtain ⟨pu, hpu⟩ := pass_lam u
    have hps := u.pass_sz
    have hbd := pass_bd (t := u) hok (by simp only [Lm.sz] at hsz; omega)
    rw [hpu] at hps hbd
    simp only [Lm.sz] at ht hsz hps
    have HUN : Hid (u.sz < N) := by unfold Hid; omega
    have HUS : Hid (u.sz ≤ 1000) := by unfold Hid; omega
    have HUO : Hid (u.ok = true) := hok
    have HPU := hideT' hpu
    have HBD : Hid ((Lm.lam pu).bd) := hbd
    have HS1 : Hid ((Lm.lam (Lm.lam pu)).sz ≤ 100000) := by unfold Hid; simp only [Lm.sz]; omega
    have HE : (Lm.lam u).pass = .lam (.app (.var 0) ((Lm.lam (Lm.lam pu)).shift 1 0)) := by rw [Lm.pass, hpu]
    rw [HE]
    obtain ⟨g, cz, zu, rfl, ⟨hgl, hgP⟩, ⟨a0, a1, a2⟩, hzu⟩ := hz
    obtain ⟨ou, cu, rfl⟩ := hzu.form
    obtain ⟨W, hWd⟩ : ∃ W, W = (w.alloc (.cells #[.int .i64 2, .int .i64 0, .slice (some ⟨g, 0, none⟩) 1 cz] 54)).alloc (.cells #[.int .i64 0, .int .i64 0, .slice none 0 0] 54) := ⟨_, rfl⟩
    have hBW : Below w.heap.size w W := by rw [hWd]; exact ((Below.refl _ _).alloc (Nat.le_refl _) _).alloc (by simp) _
    have hWs : W.heap.size = w.heap.size + 2 := by rw [hWd]; simp
    have hR0 : RowAt W w.heap.size 54 #[.int .i64 2, .int .i64 0, .slice (some ⟨g, 0, none⟩) 1 cz] := by rw [hWd]; exact RowAt.old (RowAt.new _ _ _) _
    have hRz : RowAt W (w.heap.size + 1) 54 #[.int .i64 0, .int .i64 0, .slice none 0 0] := by
      rw [hWd]
      have := RowAt.new (w.alloc (.cells #[.int .i64 2, .int .i64 0, .slice (some ⟨g, 0, none⟩) 1 cz] 54)) 54 #[.int .i64 0, .int .i64 0, .slice none 0 0]
      rwa [World.size_alloc] at this
    have t2 : W.cell? ⟨w.heap.size, 2, none⟩ = some (.slice (some ⟨g, 0, none⟩) 1 cz) := by rw [cell_of_row _ _ _ _ _ _ hR0]; rfl
    have a0 : W.cell? ⟨g, 0, none⟩ = some (.int .i64 u.kd) := by rw [hBW.cell (p := ⟨g, 0, none⟩) hgl]; exact a0
    have a1 : W.cell? ⟨g, 1, none⟩ = some (.int .i64 u.nm) := by rw [hBW.cell (p := ⟨g, 1, none⟩) hgl]; exact a1
    have a2 : W.cell? ⟨g, 2, none⟩ = some (.slice ou u.kids.length cu) := by rw [hBW.cell (p := ⟨g, 2, none⟩) hgl]; exact a2
    have hzu : LcIn W (fun x => (P x ∧ x < w.heap.size) ∨ w.heap.size + 2 ≤ x) u (.slice ou u.kids.length cu) := LcIn.keep (w := w) hBW.size (fun x _ hl => hBW.block x hl) (fun x h hl => .inl ⟨h, hl⟩) hzu
    have HBW := hideT' hBW
    clear ht hsz hBW hR0 hok hps hbd HE hpu
    show Calls Try.prog 80 #[.agg #[.int .i64 2, .int .i64 0, .slice (some ⟨g, 0, none⟩) 1 cz]] w _
    go_enter Try.func80, Try.ntmps80
    go_wp2_with fail
    rw [← hWd]
    have hS : ∀ x, x < W.heap.size → x ≠ w.heap.size + 1 → W.drew.heap[x]? = W.heap[x]? := fun _ _ _ => rfl
    refine held_begin (fun w' => ∀ x, x < W.heap.size → x ≠ w.heap.size + 1 → w'.heap[x]? = W.heap[x]?) (by kernel_rfl) ?_
    have hXd : W.drew.heap.size = W.heap.size := rfl
    refine held_valS 1 (some 20) rfl rfl (by kernel_rfl) (by kernel_rfl) (by kernel_rfl) noPanic_put rfl (.pointer (some ⟨w.heap.size, 2, none⟩)) (fun _ _ => by go_simp) hS ?_
    simp only [Act.put, List.setIfInBounds_toArray, List.set_cons_zero, List.set_cons_succ]
    refine held_valS 2 (some 21) rfl rfl (by kernel_rfl) (by kernel_rfl) (by kernel_rfl) noPanic_put rfl (.slice (some ⟨g, 0, none⟩) 1 cz) (fun w' h => by have q := ((World.cell?_of_block (w := W) (a := ⟨w.heap.size, 2, none⟩) (h (w.heap.size) (by omega) (by omega))).trans t2); go_simp) hS ?_
    simp only [Act.put, List.setIfInBounds_toArray, List.set_cons_zero, List.set_cons_succ]
    refine held_valS 3 (some 22) rfl rfl (by kernel_rfl) (by kernel_rfl) (by kernel_rfl) noPanic_put rfl (.pointer (some ⟨g, 0, none⟩)) (fun _ _ => by go_simp) hS ?_
    simp only [Act.put, List.setIfInBounds_toArray, List.set_cons_zero, List.set_cons_succ]
    refine held_valS 4 (some 23) rfl rfl (by kernel_rfl) (by kernel_rfl) (by kernel_rfl) noPanic_put rfl (.agg (lcC u.kd u.nm (.slice ou u.kids.length cu))) (fun w' h => by unfold lcC; have q0 := ((World.cell?_of_block (w := W) (a := ⟨g, 0, none⟩) (h (g) (by omega) (by omega))).trans a0); have q1 := ((World.cell?_of_block (w := W) (a := ⟨g, 1, none⟩) (h (g) (by omega) (by omega))).trans a1); have q2 := ((World.cell?_of_block (w := W) (a := ⟨g, 2, none⟩) (h (g) (by omega) (by omega))).trans a2); go_simp) hS ?_
    simp only [Act.put, List.setIfInBounds_toArray, List.set_cons_zero, List.set_cons_succ]
    refine held_call 0 (some 19) (by kernel_rfl) rfl rfl rfl 86 #[.int .i64 0] (by go_simp) _ (lcVar_any 0 W.drew) ?_
    rintro e v1 ⟨rfl, hw1⟩
    have hw1 : Below W.heap.size W v1 := ⟨hw1.os, hw1.tape, hw1.output, hw1.size, hw1.block⟩
    have hsz1 := hw1.size
    have hS1 : ∀ x, x < W.heap.size → x ≠ w.heap.size + 1 → v1.heap[x]? = W.heap[x]? := fun x hx hn => (hw1.block x (by omega)).trans (hS x hx hn)
    have hRz1 : RowAt v1 (w.heap.size + 1) 54 #[.int .i64 0, .int .i64 0, .slice none 0 0] := hRz.below hw1 (by omega)
    refine ⟨_, rfl, hS1, ?_⟩
    simp only [Act.put, List.setIfInBounds_toArray, List.set_cons_zero, List.set_cons_succ]
    have hzu1 : LcIn v1 (fun x => (P x ∧ x < w.heap.size) ∨ w.heap.size + 2 ≤ x) u (.slice ou u.kids.length cu) := LcIn.below hw1 hzu
    refine held_call 5 (some 24) (by kernel_rfl) rfl rfl rfl 80 #[.agg (lcC u.kd u.nm (.slice ou u.kids.length cu))] (by go_simp) _ (PlC.lam (HIH.out u.sz HUN.out) (Nat.le_refl _) HUS.out HUO.out HPU.out _ (fun x => (P x ∧ x < w.heap.size) ∨ w.heap.size + 2 ≤ x) v1 hzu1) ?_
    rintro e v2 ⟨⟨z2, rfl, hz2⟩, hw2⟩
    have hsz2 := hw2.size
    have hS2 : ∀ x, x < W.heap.size → x ≠ w.heap.size + 1 → v2.heap[x]? = W.heap[x]? := fun x hx hn => (hw2.block x (by omega)).trans (hS1 x hx hn)
    have hRz2 : RowAt v2 (w.heap.size + 1) 54 #[.int .i64 0, .int .i64 0, .slice none 0 0] := hRz1.below hw2 (by omega)
    obtain ⟨oo2, cc2, hzz2⟩ : ∃ o c, z2 = .slice o 1 c := hz2.form
    subst hzz2
    have h24_2 : LcIn v2 (fun x => (P x ∧ x < w.heap.size) ∨ w.heap.size + 2 ≤ x) (Lm.lam pu) (.slice oo2 1 cc2) := LcIn.mono (fun x hx _ => by rcases hx with hx | hx; exact hx; exact .inr (by omega)) hz2
    refine ⟨_, rfl, hS2, ?_⟩
    simp only [Act.put, List.setIfInBounds_toArray, List.set_cons_zero, List.set_cons_succ]
    refine held_call 6 (some 25) (by kernel_rfl) rfl rfl rfl 82 #[.agg (lcC 2 0 (.slice oo2 1 cc2))] (by go_simp) _ (lcLam_any (Lm.lam pu) _ (fun x => (P x ∧ x < w.heap.size) ∨ w.heap.size + 2 ≤ x) v2 h24_2) ?_
    rintro e v3 ⟨⟨z3, rfl, hz3⟩, hw3⟩
    have hsz3 := hw3.size
    have hS3 : ∀ x, x < W.heap.size → x ≠ w.heap.size + 1 → v3.heap[x]? = W.heap[x]? := fun x hx hn => (hw3.block x (by omega)).trans (hS2 x hx hn)
    have hRz3 : RowAt v3 (w.heap.size + 1) 54 #[.int .i64 0, .int .i64 0, .slice none 0 0] := hRz2.below hw3 (by omega)
    have h24_3 : LcIn v3 (fun x => (P x ∧ x < w.heap.size) ∨ w.heap.size + 2 ≤ x) (Lm.lam pu) (.slice oo2 1 cc2) := LcIn.below hw3 h24_2
    obtain ⟨oo3, cc3, hzz3⟩ : ∃ o c, z3 = .slice o 1 c := hz3.form
    subst hzz3
    have h25_3 : LcIn v3 (fun x => (P x ∧ x < w.heap.size) ∨ w.heap.size + 2 ≤ x) (.lam (Lm.lam pu)) (.slice oo3 1 cc3) := LcIn.mono (fun x hx _ => by rcases hx with hx | hx; exact hx; exact .inr (by omega)) hz3
    refine ⟨_, rfl, hS3, ?_⟩
    simp only [Act.put, List.setIfInBounds_toArray, List.set_cons_zero, List.set_cons_succ]
    refine held_call 7 (some 26) (by kernel_rfl) rfl rfl rfl 123 #[.agg (lcC 2 0 (.slice oo3 1 cc3)), .int .i64 1] (by go_simp) _ (lfUp_lam (Lm.lam pu) 1 ⟨by omega, by omega⟩ _ (fun x => (P x ∧ x < w.heap.size) ∨ w.heap.size + 2 ≤ x) v3 h25_3 HBD.out HS1.out) ?_
    rintro e v4 ⟨⟨z4, rfl, hz4⟩, hw4⟩
    have hsz4 := hw4.size
    have hS4 : ∀ x, x < W.heap.size → x ≠ w.heap.size + 1 → v4.heap[x]? = W.heap[x]? := fun x hx hn => (hw4.block x (by omega)).trans (hS3 x hx hn)
    have hRz4 : RowAt v4 (w.heap.size + 1) 54 #[.int .i64 0, .int .i64 0, .slice none 0 0] := hRz3.below hw4 (by omega)
    have h24_4 : LcIn v4 (fun x => (P x ∧ x < w.heap.size) ∨ w.heap.size + 2 ≤ x) (Lm.lam pu) (.slice oo2 1 cc2) := LcIn.below hw4 h24_3
    have h25_4 : LcIn v4 (fun x => (P x ∧ x < w.heap.size) ∨ w.heap.size + 2 ≤ x) (.lam (Lm.lam pu)) (.slice oo3 1 cc3) := LcIn.below hw4 h25_3
    obtain ⟨oo4, cc4, hzz4⟩ : ∃ o c, z4 = .slice o 1 c := hz4.form
    subst hzz4
    have h26_4 : LcIn v4 (fun x => (P x ∧ x < w.heap.size) ∨ w.heap.size + 2 ≤ x) ((Lm.lam (Lm.lam pu)).shift 1 0) (.slice oo4 1 cc4) := LcIn.mono (fun x hx _ => by rcases hx with hx | hx; exact hx; exact .inr (by omega)) hz4
    refine ⟨_, rfl, hS4, ?_⟩
    simp only [Act.put, List.setIfInBounds_toArray, List.set_cons_zero, List.set_cons_succ]
    refine held_call 8 (some 27) (by kernel_rfl) rfl rfl rfl 84 #[.agg (lcC 1 0 (.slice none 0 0)), .agg (lcC 2 0 (.slice oo4 1 cc4))] (by go_simp) _ (lcApp_any (.var 0) ((Lm.lam (Lm.lam pu)).shift 1 0) _ _ (fun x => (P x ∧ x < w.heap.size) ∨ w.heap.size + 2 ≤ x) v4 (lcIn_var _) h26_4) ?_
    rintro e v5 ⟨⟨z5, rfl, hz5⟩, hw5⟩
    have hsz5 := hw5.size
    have hS5 : ∀ x, x < W.heap.size → x ≠ w.heap.size + 1 → v5.heap[x]? = W.heap[x]? := fun x hx hn => (hw5.block x (by omega)).trans (hS4 x hx hn)
    have hRz5 : RowAt v5 (w.heap.size + 1) 54 #[.int .i64 0, .int .i64 0, .slice none 0 0] := hRz4.below hw5 (by omega)
    have h24_5 : LcIn v5 (fun x => (P x ∧ x < w.heap.size) ∨ w.heap.size + 2 ≤ x) (Lm.lam pu) (.slice oo2 1 cc2) := LcIn.below hw5 h24_4
    have h25_5 : LcIn v5 (fun x => (P x ∧ x < w.heap.size) ∨ w.heap.size + 2 ≤ x) (.lam (Lm.lam pu)) (.slice oo3 1 cc3) := LcIn.below hw5 h25_4
    have h26_5 : LcIn v5 (fun x => (P x ∧ x < w.heap.size) ∨ w.heap.size + 2 ≤ x) ((Lm.lam (Lm.lam pu)).shift 1 0) (.slice oo4 1 cc4) := LcIn.below hw5 h26_4
    obtain ⟨oo5, cc5, hzz5⟩ : ∃ o c, z5 = .slice o 2 c := hz5.form
    subst hzz5
    have h27_5 : LcIn v5 (fun x => (P x ∧ x < w.heap.size) ∨ w.heap.size + 2 ≤ x) (.app (.var 0) ((Lm.lam (Lm.lam pu)).shift 1 0)) (.slice oo5 2 cc5) := LcIn.mono (fun x hx _ => by rcases hx with hx | hx; exact hx; exact .inr (by omega)) hz5
    refine ⟨_, rfl, hS5, ?_⟩
    simp only [Act.put, List.setIfInBounds_toArray, List.set_cons_zero, List.set_cons_succ]
    refine held_call 9 (some 28) (by kernel_rfl) rfl rfl rfl 82 #[.agg (lcC 3 0 (.slice oo5 2 cc5))] (by go_simp) _ (lcLam_any (.app (.var 0) ((Lm.lam (Lm.lam pu)).shift 1 0)) _ (fun x => (P x ∧ x < w.heap.size) ∨ w.heap.size + 2 ≤ x) v5 h27_5) ?_
    rintro e v6 ⟨⟨z6, rfl, hz6⟩, hw6⟩
    have hsz6 := hw6.size
    have hS6 : ∀ x, x < W.heap.size → x ≠ w.heap.size + 1 → v6.heap[x]? = W.heap[x]? := fun x hx hn => (hw6.block x (by omega)).trans (hS5 x hx hn)
    have hRz6 : RowAt v6 (w.heap.size + 1) 54 #[.int .i64 0, .int .i64 0, .slice none 0 0] := hRz5.below hw6 (by omega)
    have h24_6 : LcIn v6 (fun x => (P x ∧ x < w.heap.size) ∨ w.heap.size + 2 ≤ x) (Lm.lam pu) (.slice oo2 1 cc2) := LcIn.below hw6 h24_5
    have h25_6 : LcIn v6 (fun x => (P x ∧ x < w.heap.size) ∨ w.heap.size + 2 ≤ x) (.lam (Lm.lam pu)) (.slice oo3 1 cc3) := LcIn.below hw6 h25_5
    have h26_6 : LcIn v6 (fun x => (P x ∧ x < w.heap.size) ∨ w.heap.size + 2 ≤ x) ((Lm.lam (Lm.lam pu)).shift 1 0) (.slice oo4 1 cc4) := LcIn.below hw6 h26_5
    have h27_6 : LcIn v6 (fun x => (P x ∧ x < w.heap.size) ∨ w.heap.size + 2 ≤ x) (.app (.var 0) ((Lm.lam (Lm.lam pu)).shift 1 0)) (.slice oo5 2 cc5) := LcIn.below hw6 h27_5
    obtain ⟨oo6, cc6, hzz6⟩ : ∃ o c, z6 = .slice o 1 c := hz6.form
    subst hzz6
    have h28_6 : LcIn v6 (fun x => (P x ∧ x < w.heap.size) ∨ w.heap.size + 2 ≤ x) (.lam (.app (.var 0) ((Lm.lam (Lm.lam pu)).shift 1 0))) (.slice oo6 1 cc6) := LcIn.mono (fun x hx _ => by rcases hx with hx | hx; exact hx; exact .inr (by omega)) hz6
    refine ⟨_, rfl, hS6, ?_⟩
    simp only [Act.put, List.setIfInBounds_toArray, List.set_cons_zero, List.set_cons_succ]
    have hb9 : Below W.heap.size W v6 := ((((hw1.trans (hw2.mono hw1.size)).trans (hw3.mono (by omega))).trans (hw4.mono (by omega))).trans (hw5.mono (by omega))).trans (hw6.mono (by omega))
    refine held_one 10 (by kernel_rfl) rfl rfl ?_
    intro K hK
    refine store_3_wp 54 (.tmp 2) (.tmp 28) rfl rfl zero_lcT.2 (w.heap.size + 1) (lcC 2 0 (.slice oo6 1 cc6)) rfl (lcC_one _ _ _ rfl) rfl rfl #[.int .i64 0, .int .i64 0, .slice none 0 0] rfl hRz6 ?_
    intro w9 hR9 hg9 hs9
    have hS9 : ∀ x, x < W.heap.size → x ≠ w.heap.size + 1 → w9.heap[x]? = W.heap[x]? := fun x hx hn => by rw [hg9.block x (by omega) (by intro e; injection e with e; exact hn e)]; exact hS6 x hx hn
    refine hK.out _ _ hS9 ?_
    refine wpAnyH_done (by kernel_rfl) ?_ _
    refine NoPanic.normal ?_
    have hB9 : Below w.heap.size w w9 := by
      have h1 : Below w.heap.size w W := HBW.out
      exact below9 h1 (by omega) hg9 hb9
    have HF : Hid (LcIn w9 (fun x => P x ∨ w.heap.size ≤ x) (.lam (.app (.var 0) ((Lm.lam (Lm.lam pu)).shift 1 0))) (.slice oo6 1 cc6) ∧ Below w.heap.size w w9 ∧ RowAt w9 (w.heap.size + 1) 54 (lcC 2 0 (.slice oo6 1 cc6))) := ⟨LcIn.keep (w := v6) (by omega) (fun x hx hl => hg9.block x hl (by intro e; injection e with e; rcases hx with hx | hx <;> omega)) (fun x hx _ => by rcases hx with hx | hx; exact .inl hx.1; exact .inr (by omega)) h28_6, hB9, hR9⟩
    clear hK hS hS1 hS2 hS3 hS4 hS5 hS6 hS9 hw1 hw2 hw3 hw4 hw5 hw6 hg9 hR9 hRz1 hRz2 hRz3 hRz4 hRz5 hRz6 hRz hb9 hB9
    go_wp2
    exact bodyPost_ret (v := .agg (lcC 2 0 (.slice oo6 1 cc6))) (results_cell_row Try.results80 _ _ (w.heap.size + 1) 54 (lcC 2 0 (.slice oo6 1 cc6)) (0, 0) _ rfl HF.out.2.2 Try.underlying54 rfl zero_lcT.2) rfl ⟨⟨_, rfl, HF.out.1⟩, HF.out.2.1⟩
  | app s u =>
    obtain ⟨pu, hpu⟩ := pass_lam u
    obtain ⟨ps, hps⟩ := pass_lam s
    simp only [Lm.ok, Bool.and_eq_true] at hok
    have q1 := u.pass_sz
    have q2 := s.pass_sz
    have q3 := u.sz_pos
    have q4 := s.sz_pos
    simp only [Lm.sz] at ht hsz
    have HUN : Hid (u.sz < N) := by unfold Hid; omega
    have HSN : Hid (s.sz < N) := by unfold Hid; omega
    have HUS : Hid (u.sz ≤ 1000) := by unfold Hid; omega
    have HSS : Hid (s.sz ≤ 1000) := by unfold Hid; omega
    have HUO : Hid (u.ok = true) := hok.2
    have HSO : Hid (s.ok = true) := hok.1
    have b1 := pass_bd hok.2 HUS.out
    have b2 := pass_bd hok.1 HSS.out
    rw [hpu] at q1 b1
    rw [hps] at q2 b2
    have HBU : Hid (pu.bd) := b1
    have HBS : Hid (ps.bd) := b2
    have HSU : Hid ((Lm.lam pu).sz ≤ 100000) := by unfold Hid; omega
    have HSP : Hid ((Lm.lam ps).sz ≤ 100000) := by unfold Hid; omega
    have HPU := hideT' hpu
    have HPS := hideT' hps
    have HE : (Lm.app s u).pass = .lam (.app ((Lm.lam ps).shift 1 0) (.lam (.app ((Lm.lam pu).shift 2 0) lastT))) := by rw [Lm.pass, hpu, hps]
    rw [HE]
    obtain ⟨g, cz, zs, zu, rfl, ⟨hgl, hgP⟩, ⟨a0, a1, a2⟩, ⟨e0, e1, e2⟩, hzs, hzu⟩ := hz
    obtain ⟨ou, cu, rfl⟩ := hzu.form
    obtain ⟨os, cs, rfl⟩ := hzs.form
    obtain ⟨W, hWd⟩ : ∃ W, W = (w.alloc (.cells #[.int .i64 3, .int .i64 0, .slice (some ⟨g, 0, none⟩) 2 cz] 54)).alloc (.cells #[.int .i64 0, .int .i64 0, .slice none 0 0] 54) := ⟨_, rfl⟩
    have hBW : Below w.heap.size w W := by rw [hWd]; exact ((Below.refl _ _).alloc (Nat.le_refl _) _).alloc (by simp) _
    have hWs : W.heap.size = w.heap.size + 2 := by rw [hWd]; simp
    have HR0 : Hid (RowAt W w.heap.size 54 #[.int .i64 3, .int .i64 0, .slice (some ⟨g, 0, none⟩) 2 cz]) := by unfold Hid; rw [hWd]; exact RowAt.old (RowAt.new _ _ _) _
    have HRz : Hid (RowAt W (w.heap.size + 1) 54 #[.int .i64 0, .int .i64 0, .slice none 0 0]) := by
      unfold Hid
      rw [hWd]
      have := RowAt.new (w.alloc (.cells #[.int .i64 3, .int .i64 0, .slice (some ⟨g, 0, none⟩) 2 cz] 54)) 54 #[.int .i64 0, .int .i64 0, .slice none 0 0]
      rwa [World.size_alloc] at this
    have HKs0 := hideT' a0
    have HKs1 := hideT' a1
    have HKs2 := hideT' a2
    have HKu0 := hideT' e0
    have HKu1 := hideT' e1
    have HKu2 := hideT' e2
    have HZU : Hid (LcIn W (fun x => (P x ∧ x < w.heap.size) ∨ w.heap.size + 2 ≤ x) u (.slice ou u.kids.length cu)) := LcIn.keep (w := w) hBW.size (fun x _ hl => hBW.block x hl) (fun x h hl => .inl ⟨h, hl⟩) hzu
    have HZS : Hid (LcIn W (fun x => (P x ∧ x < w.heap.size) ∨ w.heap.size + 2 ≤ x) s (.slice os s.kids.length cs)) := LcIn.keep (w := w) hBW.size (fun x _ hl => hBW.block x hl) (fun x h hl => .inl ⟨h, hl⟩) hzs
    have HB0 : Hid (Below w.heap.size w W ∧ w.heap.size + 2 ≤ W.heap.size) := ⟨hBW, by omega⟩
    have HWd := hideT' hWd
    clear ht hsz hBW hok hps hpu HE q1 q2 q3 q4 b1 b2 a0 a1 a2 e0 e1 e2 hzs hzu hWs hWd
    show Calls Try.prog 80 #[.agg #[.int .i64 3, .int .i64 0, .slice (some ⟨g, 0, none⟩) 2 cz]] w _
    go_enter Try.func80, Try.ntmps80
    have t2 : ((w.alloc (.cells #[.int .i64 3, .int .i64 0, .slice (some ⟨g, 0, none⟩) 2 cz] 54)).alloc (.cells #[.int .i64 0, .int .i64 0, .slice none 0 0] 54)).cell? ⟨w.heap.size, 2, none⟩ = some (.slice (some ⟨g, 0, none⟩) 2 cz) := by rw [← HWd.out, cell_of_row _ _ _ _ _ _ HR0.out]; rfl
    have a0 : ((w.alloc (.cells #[.int .i64 3, .int .i64 0, .slice (some ⟨g, 0, none⟩) 2 cz] 54)).alloc (.cells #[.int .i64 0, .int .i64 0, .slice none 0 0] 54)).cell? ⟨g, 0, none⟩ = some (.int .i64 s.kd) := by rw [← HWd.out, HB0.out.1.cell (p := ⟨g, 0, none⟩) hgl]; exact HKs0.out
    have a1 : ((w.alloc (.cells #[.int .i64 3, .int .i64 0, .slice (some ⟨g, 0, none⟩) 2 cz] 54)).alloc (.cells #[.int .i64 0, .int .i64 0, .slice none 0 0] 54)).cell? ⟨g, 1, none⟩ = some (.int .i64 s.nm) := by rw [← HWd.out, HB0.out.1.cell (p := ⟨g, 1, none⟩) hgl]; exact HKs1.out
    have a2 : ((w.alloc (.cells #[.int .i64 3, .int .i64 0, .slice (some ⟨g, 0, none⟩) 2 cz] 54)).alloc (.cells #[.int .i64 0, .int .i64 0, .slice none 0 0] 54)).cell? ⟨g, 2, none⟩ = some (.slice os s.kids.length cs) := by rw [← HWd.out, HB0.out.1.cell (p := ⟨g, 2, none⟩) hgl]; exact HKs2.out
    have HC1 := hideT' (PlC.lam (HIH.out s.sz HSN.out) (Nat.le_refl _) HSS.out HSO.out HPS.out _ (fun x => (P x ∧ x < w.heap.size) ∨ w.heap.size + 2 ≤ x) W HZS.out)
    unfold lcC at HC1
    go_wp2_with fail
    rw [← HWd.out]
    refine HC1.out.mono ?_
    rintro e x1 ⟨⟨z1, rfl, hz⟩, hB⟩
    have HB1 : Hid (Below w.heap.size w x1 ∧ w.heap.size + 2 ≤ x1.heap.size) := ⟨HB0.out.1.trans (hB.mono HB0.out.1.size), Nat.le_trans HB0.out.2 hB.size⟩
    have Hs1 : Hid (LcIn x1 (fun x => (P x ∧ x < w.heap.size) ∨ w.heap.size + 2 ≤ x) s (.slice os s.kids.length cs)) := LcIn.below hB HZS.out
    have Hu1 : Hid (LcIn x1 (fun x => (P x ∧ x < w.heap.size) ∨ w.heap.size + 2 ≤ x) u (.slice ou u.kids.length cu)) := LcIn.below hB HZU.out
    have HRWt1 : Hid (RowAt x1 w.heap.size 54 #[.int .i64 3, .int .i64 0, .slice (some ⟨g, 0, none⟩) 2 cz]) := HR0.out.below hB HR0.out.lt
    have HRWz1 : Hid (RowAt x1 (w.heap.size + 1) 54 #[.int .i64 0, .int .i64 0, .slice none 0 0]) := HRz.out.below hB HRz.out.lt
    obtain ⟨o1, c1, hzz⟩ : ∃ o c, z1 = .slice o 1 c := hz.form
    subst hzz
    have HV1 : Hid (LcIn x1 (fun x => (P x ∧ x < w.heap.size) ∨ w.heap.size + 2 ≤ x) (Lm.lam ps) (.slice o1 1 c1)) := LcIn.mono (fun x hx _ => by have := HB0.out.2; rcases hx with hx | hx; exact hx; exact .inr (by omega)) hz
    clear hz
    clear hB HC1
    clear t2 a0 a1 a2
    have HC2 := hideT' (lfUp_lam ps 1 ⟨by omega, by omega⟩ _ (fun x => (P x ∧ x < w.heap.size) ∨ w.heap.size + 2 ≤ x) x1 HV1.out HBS.out HSP.out)
    unfold lcC at HC2
    go_wp2_with fail
    refine HC2.out.mono ?_
    rintro e x2 ⟨⟨z2, rfl, hz⟩, hB⟩
    have HB2 : Hid (Below w.heap.size w x2 ∧ w.heap.size + 2 ≤ x2.heap.size) := ⟨HB1.out.1.trans (hB.mono HB1.out.1.size), Nat.le_trans HB1.out.2 hB.size⟩
    have Hu2 : Hid (LcIn x2 (fun x => (P x ∧ x < w.heap.size) ∨ w.heap.size + 2 ≤ x) u (.slice ou u.kids.length cu)) := LcIn.below hB Hu1.out
    have Hps2 : Hid (LcIn x2 (fun x => (P x ∧ x < w.heap.size) ∨ w.heap.size + 2 ≤ x) (Lm.lam ps) (.slice o1 1 c1)) := LcIn.below hB HV1.out
    have HRWt2 : Hid (RowAt x2 w.heap.size 54 #[.int .i64 3, .int .i64 0, .slice (some ⟨g, 0, none⟩) 2 cz]) := HRWt1.out.below hB HRWt1.out.lt
    have HRWz2 : Hid (RowAt x2 (w.heap.size + 1) 54 #[.int .i64 0, .int .i64 0, .slice none 0 0]) := HRWz1.out.below hB HRWz1.out.lt
    obtain ⟨o2, c2, hzz⟩ : ∃ o c, z2 = .slice o 1 c := hz.form
    subst hzz
    have HV2 : Hid (LcIn x2 (fun x => (P x ∧ x < w.heap.size) ∨ w.heap.size + 2 ≤ x) ((Lm.lam ps).shift 1 0) (.slice o2 1 c2)) := LcIn.mono (fun x hx _ => by have := HB1.out.2; rcases hx with hx | hx; exact hx; exact .inr (by omega)) hz
    clear hz
    clear hB HC2
    obtain ⟨x2a, hal⟩ : ∃ q, q = x2.alloc (.cells #[.int .i64 2, .int .i64 0, .slice o2 1 c2] 54) := ⟨_, rfl⟩
    have hB : Below x2.heap.size x2 x2a := by rw [hal]; exact (Below.refl _ _).alloc (Nat.le_refl _) _
    have HB3 : Hid (Below w.heap.size w x2a ∧ w.heap.size + 2 ≤ x2a.heap.size) := ⟨HB2.out.1.trans (hB.mono HB2.out.1.size), Nat.le_trans HB2.out.2 hB.size⟩
    have Hu3 : Hid (LcIn x2a (fun x => (P x ∧ x < w.heap.size) ∨ w.heap.size + 2 ≤ x) u (.slice ou u.kids.length cu)) := LcIn.below hB Hu2.out
    have Hqs3 : Hid (LcIn x2a (fun x => (P x ∧ x < w.heap.size) ∨ w.heap.size + 2 ≤ x) ((Lm.lam ps).shift 1 0) (.slice o2 1 c2)) := LcIn.below hB HV2.out
    have HRWt3 : Hid (RowAt x2a w.heap.size 54 #[.int .i64 3, .int .i64 0, .slice (some ⟨g, 0, none⟩) 2 cz]) := HRWt2.out.below hB HRWt2.out.lt
    have HRWz3 : Hid (RowAt x2a (w.heap.size + 1) 54 #[.int .i64 0, .int .i64 0, .slice none 0 0]) := HRWz2.out.below hB HRWz2.out.lt
    have HRWB3 : Hid (RowAt x2a x2.heap.size 54 #[.int .i64 2, .int .i64 0, .slice o2 1 c2]) := by unfold Hid; rw [hal]; exact RowAt.new _ _ _
    have hsB : x2a.heap.size = x2.heap.size + 1 := by rw [hal]; simp
    have HALB := hideT' hal
    clear hal hB
    have t2 : (x2.alloc (.cells #[.int .i64 2, .int .i64 0, .slice o2 1 c2] 54)).cell? ⟨w.heap.size, 2, none⟩ = some (.slice (some ⟨g, 0, none⟩) 2 cz) := by rw [← HALB.out, cell_of_row _ _ _ _ _ _ HRWt3.out]; rfl
    have a0 : (x2.alloc (.cells #[.int .i64 2, .int .i64 0, .slice o2 1 c2] 54)).cell? ⟨g, 3, none⟩ = some (.int .i64 u.kd) := by rw [← HALB.out, HB3.out.1.cell (p := ⟨g, 3, none⟩) hgl]; exact HKu0.out
    have a1 : (x2.alloc (.cells #[.int .i64 2, .int .i64 0, .slice o2 1 c2] 54)).cell? ⟨g, 4, none⟩ = some (.int .i64 u.nm) := by rw [← HALB.out, HB3.out.1.cell (p := ⟨g, 4, none⟩) hgl]; exact HKu1.out
    have a2 : (x2.alloc (.cells #[.int .i64 2, .int .i64 0, .slice o2 1 c2] 54)).cell? ⟨g, 5, none⟩ = some (.slice ou u.kids.length cu) := by rw [← HALB.out, HB3.out.1.cell (p := ⟨g, 5, none⟩) hgl]; exact HKu2.out
    have HC4 := hideT' (PlC.lam (HIH.out u.sz HUN.out) (Nat.le_refl _) HUS.out HUO.out HPU.out _ (fun x => (P x ∧ x < w.heap.size) ∨ w.heap.size + 2 ≤ x) x2a Hu3.out)
    unfold lcC at HC4
    go_wp2_with fail
    rw [← HALB.out]
    refine HC4.out.mono ?_
    rintro e x4 ⟨⟨z4, rfl, hz⟩, hB⟩
    have HB4 : Hid (Below w.heap.size w x4 ∧ w.heap.size + 2 ≤ x4.heap.size) := ⟨HB3.out.1.trans (hB.mono HB3.out.1.size), Nat.le_trans HB3.out.2 hB.size⟩
    have Hu4 : Hid (LcIn x4 (fun x => (P x ∧ x < w.heap.size) ∨ w.heap.size + 2 ≤ x) u (.slice ou u.kids.length cu)) := LcIn.below hB Hu3.out
    have Hqs4 : Hid (LcIn x4 (fun x => (P x ∧ x < w.heap.size) ∨ w.heap.size + 2 ≤ x) ((Lm.lam ps).shift 1 0) (.slice o2 1 c2)) := LcIn.below hB Hqs3.out
    have HRWt4 : Hid (RowAt x4 w.heap.size 54 #[.int .i64 3, .int .i64 0, .slice (some ⟨g, 0, none⟩) 2 cz]) := HRWt3.out.below hB HRWt3.out.lt
    have HRWz4 : Hid (RowAt x4 (w.heap.size + 1) 54 #[.int .i64 0, .int .i64 0, .slice none 0 0]) := HRWz3.out.below hB HRWz3.out.lt
    have HRWB4 : Hid (RowAt x4 x2.heap.size 54 #[.int .i64 2, .int .i64 0, .slice o2 1 c2]) := HRWB3.out.below hB HRWB3.out.lt
    obtain ⟨o4, c4, hzz⟩ : ∃ o c, z4 = .slice o 1 c := hz.form
    subst hzz
    have HV4 : Hid (LcIn x4 (fun x => (P x ∧ x < w.heap.size) ∨ w.heap.size + 2 ≤ x) (Lm.lam pu) (.slice o4 1 c4)) := LcIn.mono (fun x hx _ => by have := HB3.out.2; rcases hx with hx | hx; exact hx; exact .inr (by omega)) hz
    clear hz
    clear hB HC4
    clear t2 a0 a1 a2
    have HC5 := hideT' (lfUp_lam pu 2 ⟨by omega, by omega⟩ _ (fun x => (P x ∧ x < w.heap.size) ∨ w.heap.size + 2 ≤ x) x4 HV4.out HBU.out HSU.out)
    unfold lcC at HC5
    go_wp2_with fail
    refine HC5.out.mono ?_
    rintro e x5 ⟨⟨z5, rfl, hz⟩, hB⟩
    have HB5 : Hid (Below w.heap.size w x5 ∧ w.heap.size + 2 ≤ x5.heap.size) := ⟨HB4.out.1.trans (hB.mono HB4.out.1.size), Nat.le_trans HB4.out.2 hB.size⟩
    have Hqs5 : Hid (LcIn x5 (fun x => (P x ∧ x < w.heap.size) ∨ w.heap.size + 2 ≤ x) ((Lm.lam ps).shift 1 0) (.slice o2 1 c2)) := LcIn.below hB Hqs4.out
    have Hpu5 : Hid (LcIn x5 (fun x => (P x ∧ x < w.heap.size) ∨ w.heap.size + 2 ≤ x) (Lm.lam pu) (.slice o4 1 c4)) := LcIn.below hB HV4.out
    have HRWt5 : Hid (RowAt x5 w.heap.size 54 #[.int .i64 3, .int .i64 0, .slice (some ⟨g, 0, none⟩) 2 cz]) := HRWt4.out.below hB HRWt4.out.lt
    have HRWz5 : Hid (RowAt x5 (w.heap.size + 1) 54 #[.int .i64 0, .int .i64 0, .slice none 0 0]) := HRWz4.out.below hB HRWz4.out.lt
    have HRWB5 : Hid (RowAt x5 x2.heap.size 54 #[.int .i64 2, .int .i64 0, .slice o2 1 c2]) := HRWB4.out.below hB HRWB4.out.lt
    obtain ⟨o5, c5, hzz⟩ : ∃ o c, z5 = .slice o 1 c := hz.form
    subst hzz
    have HV5 : Hid (LcIn x5 (fun x => (P x ∧ x < w.heap.size) ∨ w.heap.size + 2 ≤ x) ((Lm.lam pu).shift 2 0) (.slice o5 1 c5)) := LcIn.mono (fun x hx _ => by have := HB4.out.2; rcases hx with hx | hx; exact hx; exact .inr (by omega)) hz
    clear hz
    clear hB HC5
    obtain ⟨x5a, hal⟩ : ∃ q, q = x5.alloc (.cells #[.int .i64 2, .int .i64 0, .slice o5 1 c5] 54) := ⟨_, rfl⟩
    have hB : Below x5.heap.size x5 x5a := by rw [hal]; exact (Below.refl _ _).alloc (Nat.le_refl _) _
    have HB6 : Hid (Below w.heap.size w x5a ∧ w.heap.size + 2 ≤ x5a.heap.size) := ⟨HB5.out.1.trans (hB.mono HB5.out.1.size), Nat.le_trans HB5.out.2 hB.size⟩
    have Hqs6 : Hid (LcIn x5a (fun x => (P x ∧ x < w.heap.size) ∨ w.heap.size + 2 ≤ x) ((Lm.lam ps).shift 1 0) (.slice o2 1 c2)) := LcIn.below hB Hqs5.out
    have Hqu6 : Hid (LcIn x5a (fun x => (P x ∧ x < w.heap.size) ∨ w.heap.size + 2 ≤ x) ((Lm.lam pu).shift 2 0) (.slice o5 1 c5)) := LcIn.below hB HV5.out
    have HRWt6 : Hid (RowAt x5a w.heap.size 54 #[.int .i64 3, .int .i64 0, .slice (some ⟨g, 0, none⟩) 2 cz]) := HRWt5.out.below hB HRWt5.out.lt
    have HRWz6 : Hid (RowAt x5a (w.heap.size + 1) 54 #[.int .i64 0, .int .i64 0, .slice none 0 0]) := HRWz5.out.below hB HRWz5.out.lt
    have HRWB6 : Hid (RowAt x5a x2.heap.size 54 #[.int .i64 2, .int .i64 0, .slice o2 1 c2]) := HRWB5.out.below hB HRWB5.out.lt
    have HRWC6 : Hid (RowAt x5a x5.heap.size 54 #[.int .i64 2, .int .i64 0, .slice o5 1 c5]) := by unfold Hid; rw [hal]; exact RowAt.new _ _ _
    have hsC : x5a.heap.size = x5.heap.size + 1 := by rw [hal]; simp
    have HALC := hideT' hal
    clear hal hB
    have HC7 := hideT' (lcVar_any 1 x5a)
    unfold lcC at HC7
    go_wp2_with fail
    rw [← HALC.out]
    refine HC7.out.mono ?_
    rintro e x7 ⟨rfl, hB⟩
    have HB7 : Hid (Below w.heap.size w x7 ∧ w.heap.size + 2 ≤ x7.heap.size) := ⟨HB6.out.1.trans (hB.mono HB6.out.1.size), Nat.le_trans HB6.out.2 hB.size⟩
    have Hqs7 : Hid (LcIn x7 (fun x => (P x ∧ x < w.heap.size) ∨ w.heap.size + 2 ≤ x) ((Lm.lam ps).shift 1 0) (.slice o2 1 c2)) := LcIn.below hB Hqs6.out
    have Hqu7 : Hid (LcIn x7 (fun x => (P x ∧ x < w.heap.size) ∨ w.heap.size + 2 ≤ x) ((Lm.lam pu).shift 2 0) (.slice o5 1 c5)) := LcIn.below hB Hqu6.out
    have HRWt7 : Hid (RowAt x7 w.heap.size 54 #[.int .i64 3, .int .i64 0, .slice (some ⟨g, 0, none⟩) 2 cz]) := HRWt6.out.below hB HRWt6.out.lt
    have HRWz7 : Hid (RowAt x7 (w.heap.size + 1) 54 #[.int .i64 0, .int .i64 0, .slice none 0 0]) := HRWz6.out.below hB HRWz6.out.lt
    have HRWB7 : Hid (RowAt x7 x2.heap.size 54 #[.int .i64 2, .int .i64 0, .slice o2 1 c2]) := HRWB6.out.below hB HRWB6.out.lt
    have HRWC7 : Hid (RowAt x7 x5.heap.size 54 #[.int .i64 2, .int .i64 0, .slice o5 1 c5]) := HRWC6.out.below hB HRWC6.out.lt
    have HV7 : Hid (LcIn x7 (fun x => (P x ∧ x < w.heap.size) ∨ w.heap.size + 2 ≤ x) (.var 1) (.slice none 0 0)) := ⟨none, 0, rfl⟩
    clear hB HC7
    have HC8 := hideT' (lcVar_any 0 x7)
    unfold lcC at HC8
    go_wp2_with fail
    refine HC8.out.mono ?_
    rintro e x8 ⟨rfl, hB⟩
    have HB8 : Hid (Below w.heap.size w x8 ∧ w.heap.size + 2 ≤ x8.heap.size) := ⟨HB7.out.1.trans (hB.mono HB7.out.1.size), Nat.le_trans HB7.out.2 hB.size⟩
    have Hqs8 : Hid (LcIn x8 (fun x => (P x ∧ x < w.heap.size) ∨ w.heap.size + 2 ≤ x) ((Lm.lam ps).shift 1 0) (.slice o2 1 c2)) := LcIn.below hB Hqs7.out
    have Hqu8 : Hid (LcIn x8 (fun x => (P x ∧ x < w.heap.size) ∨ w.heap.size + 2 ≤ x) ((Lm.lam pu).shift 2 0) (.slice o5 1 c5)) := LcIn.below hB Hqu7.out
    have Hx8 : Hid (LcIn x8 (fun x => (P x ∧ x < w.heap.size) ∨ w.heap.size + 2 ≤ x) (.var 1) (.slice none 0 0)) := LcIn.below hB HV7.out
    have HRWt8 : Hid (RowAt x8 w.heap.size 54 #[.int .i64 3, .int .i64 0, .slice (some ⟨g, 0, none⟩) 2 cz]) := HRWt7.out.below hB HRWt7.out.lt
    have HRWz8 : Hid (RowAt x8 (w.heap.size + 1) 54 #[.int .i64 0, .int .i64 0, .slice none 0 0]) := HRWz7.out.below hB HRWz7.out.lt
    have HRWB8 : Hid (RowAt x8 x2.heap.size 54 #[.int .i64 2, .int .i64 0, .slice o2 1 c2]) := HRWB7.out.below hB HRWB7.out.lt
    have HRWC8 : Hid (RowAt x8 x5.heap.size 54 #[.int .i64 2, .int .i64 0, .slice o5 1 c5]) := HRWC7.out.below hB HRWC7.out.lt
    have HV8 : Hid (LcIn x8 (fun x => (P x ∧ x < w.heap.size) ∨ w.heap.size + 2 ≤ x) (.var 0) (.slice none 0 0)) := ⟨none, 0, rfl⟩
    clear hB HC8
    have HC9 := hideT' (lcApp_any (.var 1) (.var 0) _ _ (fun x => (P x ∧ x < w.heap.size) ∨ w.heap.size + 2 ≤ x) x8 Hx8.out HV8.out)
    unfold lcC at HC9
    go_wp2_with fail
    refine HC9.out.mono ?_
    rintro e x9 ⟨⟨z9, rfl, hz⟩, hB⟩
    have HB9 : Hid (Below w.heap.size w x9 ∧ w.heap.size + 2 ≤ x9.heap.size) := ⟨HB8.out.1.trans (hB.mono HB8.out.1.size), Nat.le_trans HB8.out.2 hB.size⟩
    have Hqs9 : Hid (LcIn x9 (fun x => (P x ∧ x < w.heap.size) ∨ w.heap.size + 2 ≤ x) ((Lm.lam ps).shift 1 0) (.slice o2 1 c2)) := LcIn.below hB Hqs8.out
    have Hqu9 : Hid (LcIn x9 (fun x => (P x ∧ x < w.heap.size) ∨ w.heap.size + 2 ≤ x) ((Lm.lam pu).shift 2 0) (.slice o5 1 c5)) := LcIn.below hB Hqu8.out
    have Hx9 : Hid (LcIn x9 (fun x => (P x ∧ x < w.heap.size) ∨ w.heap.size + 2 ≤ x) (.var 1) (.slice none 0 0)) := LcIn.below hB Hx8.out
    have Hy9 : Hid (LcIn x9 (fun x => (P x ∧ x < w.heap.size) ∨ w.heap.size + 2 ≤ x) (.var 0) (.slice none 0 0)) := LcIn.below hB HV8.out
    have HRWt9 : Hid (RowAt x9 w.heap.size 54 #[.int .i64 3, .int .i64 0, .slice (some ⟨g, 0, none⟩) 2 cz]) := HRWt8.out.below hB HRWt8.out.lt
    have HRWz9 : Hid (RowAt x9 (w.heap.size + 1) 54 #[.int .i64 0, .int .i64 0, .slice none 0 0]) := HRWz8.out.below hB HRWz8.out.lt
    have HRWB9 : Hid (RowAt x9 x2.heap.size 54 #[.int .i64 2, .int .i64 0, .slice o2 1 c2]) := HRWB8.out.below hB HRWB8.out.lt
    have HRWC9 : Hid (RowAt x9 x5.heap.size 54 #[.int .i64 2, .int .i64 0, .slice o5 1 c5]) := HRWC8.out.below hB HRWC8.out.lt
    obtain ⟨o9, c9, hzz⟩ : ∃ o c, z9 = .slice o 2 c := hz.form
    subst hzz
    have HV9 : Hid (LcIn x9 (fun x => (P x ∧ x < w.heap.size) ∨ w.heap.size + 2 ≤ x) (.app (.var 1) (.var 0)) (.slice o9 2 c9)) := LcIn.mono (fun x hx _ => by have := HB8.out.2; rcases hx with hx | hx; exact hx; exact .inr (by omega)) hz
    clear hz
    clear hB HC9
    have HC10 := hideT' (lcVar_any 2 x9)
    unfold lcC at HC10
    go_wp2_with fail
    refine HC10.out.mono ?_
    rintro e x10 ⟨rfl, hB⟩
    have HB10 : Hid (Below w.heap.size w x10 ∧ w.heap.size + 2 ≤ x10.heap.size) := ⟨HB9.out.1.trans (hB.mono HB9.out.1.size), Nat.le_trans HB9.out.2 hB.size⟩
    have Hqs10 : Hid (LcIn x10 (fun x => (P x ∧ x < w.heap.size) ∨ w.heap.size + 2 ≤ x) ((Lm.lam ps).shift 1 0) (.slice o2 1 c2)) := LcIn.below hB Hqs9.out
    have Hqu10 : Hid (LcIn x10 (fun x => (P x ∧ x < w.heap.size) ∨ w.heap.size + 2 ≤ x) ((Lm.lam pu).shift 2 0) (.slice o5 1 c5)) := LcIn.below hB Hqu9.out
    have Hxy10 : Hid (LcIn x10 (fun x => (P x ∧ x < w.heap.size) ∨ w.heap.size + 2 ≤ x) (.app (.var 1) (.var 0)) (.slice o9 2 c9)) := LcIn.below hB HV9.out
    have HRWt10 : Hid (RowAt x10 w.heap.size 54 #[.int .i64 3, .int .i64 0, .slice (some ⟨g, 0, none⟩) 2 cz]) := HRWt9.out.below hB HRWt9.out.lt
    have HRWz10 : Hid (RowAt x10 (w.heap.size + 1) 54 #[.int .i64 0, .int .i64 0, .slice none 0 0]) := HRWz9.out.below hB HRWz9.out.lt
    have HRWB10 : Hid (RowAt x10 x2.heap.size 54 #[.int .i64 2, .int .i64 0, .slice o2 1 c2]) := HRWB9.out.below hB HRWB9.out.lt
    have HRWC10 : Hid (RowAt x10 x5.heap.size 54 #[.int .i64 2, .int .i64 0, .slice o5 1 c5]) := HRWC9.out.below hB HRWC9.out.lt
    have HV10 : Hid (LcIn x10 (fun x => (P x ∧ x < w.heap.size) ∨ w.heap.size + 2 ≤ x) (.var 2) (.slice none 0 0)) := ⟨none, 0, rfl⟩
    clear hB HC10
    have HC11 := hideT' (lcApp_any (.app (.var 1) (.var 0)) (.var 2) _ _ (fun x => (P x ∧ x < w.heap.size) ∨ w.heap.size + 2 ≤ x) x10 Hxy10.out HV10.out)
    unfold lcC at HC11
    go_wp2_with fail
    refine HC11.out.mono ?_
    rintro e x11 ⟨⟨z11, rfl, hz⟩, hB⟩
    have HB11 : Hid (Below w.heap.size w x11 ∧ w.heap.size + 2 ≤ x11.heap.size) := ⟨HB10.out.1.trans (hB.mono HB10.out.1.size), Nat.le_trans HB10.out.2 hB.size⟩
    have Hqs11 : Hid (LcIn x11 (fun x => (P x ∧ x < w.heap.size) ∨ w.heap.size + 2 ≤ x) ((Lm.lam ps).shift 1 0) (.slice o2 1 c2)) := LcIn.below hB Hqs10.out
    have Hqu11 : Hid (LcIn x11 (fun x => (P x ∧ x < w.heap.size) ∨ w.heap.size + 2 ≤ x) ((Lm.lam pu).shift 2 0) (.slice o5 1 c5)) := LcIn.below hB Hqu10.out
    have Hxy11 : Hid (LcIn x11 (fun x => (P x ∧ x < w.heap.size) ∨ w.heap.size + 2 ≤ x) (.app (.var 1) (.var 0)) (.slice o9 2 c9)) := LcIn.below hB Hxy10.out
    have Hz211 : Hid (LcIn x11 (fun x => (P x ∧ x < w.heap.size) ∨ w.heap.size + 2 ≤ x) (.var 2) (.slice none 0 0)) := LcIn.below hB HV10.out
    have HRWt11 : Hid (RowAt x11 w.heap.size 54 #[.int .i64 3, .int .i64 0, .slice (some ⟨g, 0, none⟩) 2 cz]) := HRWt10.out.below hB HRWt10.out.lt
    have HRWz11 : Hid (RowAt x11 (w.heap.size + 1) 54 #[.int .i64 0, .int .i64 0, .slice none 0 0]) := HRWz10.out.below hB HRWz10.out.lt
    have HRWB11 : Hid (RowAt x11 x2.heap.size 54 #[.int .i64 2, .int .i64 0, .slice o2 1 c2]) := HRWB10.out.below hB HRWB10.out.lt
    have HRWC11 : Hid (RowAt x11 x5.heap.size 54 #[.int .i64 2, .int .i64 0, .slice o5 1 c5]) := HRWC10.out.below hB HRWC10.out.lt
    obtain ⟨o11, c11, hzz⟩ : ∃ o c, z11 = .slice o 2 c := hz.form
    subst hzz
    have HV11 : Hid (LcIn x11 (fun x => (P x ∧ x < w.heap.size) ∨ w.heap.size + 2 ≤ x) (.app (.app (.var 1) (.var 0)) (.var 2)) (.slice o11 2 c11)) := LcIn.mono (fun x hx _ => by have := HB10.out.2; rcases hx with hx | hx; exact hx; exact .inr (by omega)) hz
    clear hz
    clear hB HC11
    have HC12 := hideT' (lcLam_any (.app (.app (.var 1) (.var 0)) (.var 2)) _ (fun x => (P x ∧ x < w.heap.size) ∨ w.heap.size + 2 ≤ x) x11 HV11.out)
    unfold lcC at HC12
    go_wp2_with fail
    refine HC12.out.mono ?_
    rintro e x12 ⟨⟨z12, rfl, hz⟩, hB⟩
    have HB12 : Hid (Below w.heap.size w x12 ∧ w.heap.size + 2 ≤ x12.heap.size) := ⟨HB11.out.1.trans (hB.mono HB11.out.1.size), Nat.le_trans HB11.out.2 hB.size⟩
    have Hqs12 : Hid (LcIn x12 (fun x => (P x ∧ x < w.heap.size) ∨ w.heap.size + 2 ≤ x) ((Lm.lam ps).shift 1 0) (.slice o2 1 c2)) := LcIn.below hB Hqs11.out
    have Hqu12 : Hid (LcIn x12 (fun x => (P x ∧ x < w.heap.size) ∨ w.heap.size + 2 ≤ x) ((Lm.lam pu).shift 2 0) (.slice o5 1 c5)) := LcIn.below hB Hqu11.out
    have Hc12 : Hid (LcIn x12 (fun x => (P x ∧ x < w.heap.size) ∨ w.heap.size + 2 ≤ x) (.app (.app (.var 1) (.var 0)) (.var 2)) (.slice o11 2 c11)) := LcIn.below hB HV11.out
    have HRWt12 : Hid (RowAt x12 w.heap.size 54 #[.int .i64 3, .int .i64 0, .slice (some ⟨g, 0, none⟩) 2 cz]) := HRWt11.out.below hB HRWt11.out.lt
    have HRWz12 : Hid (RowAt x12 (w.heap.size + 1) 54 #[.int .i64 0, .int .i64 0, .slice none 0 0]) := HRWz11.out.below hB HRWz11.out.lt
    have HRWB12 : Hid (RowAt x12 x2.heap.size 54 #[.int .i64 2, .int .i64 0, .slice o2 1 c2]) := HRWB11.out.below hB HRWB11.out.lt
    have HRWC12 : Hid (RowAt x12 x5.heap.size 54 #[.int .i64 2, .int .i64 0, .slice o5 1 c5]) := HRWC11.out.below hB HRWC11.out.lt
    obtain ⟨o12, c12, hzz⟩ : ∃ o c, z12 = .slice o 1 c := hz.form
    subst hzz
    have HV12 : Hid (LcIn x12 (fun x => (P x ∧ x < w.heap.size) ∨ w.heap.size + 2 ≤ x) lastT (.slice o12 1 c12)) := LcIn.mono (fun x hx _ => by have := HB11.out.2; rcases hx with hx | hx; exact hx; exact .inr (by omega)) hz
    clear hz
    clear hB HC12
    obtain ⟨x12a, hal⟩ : ∃ q, q = x12.alloc (.cells #[.int .i64 2, .int .i64 0, .slice o12 1 c12] 54) := ⟨_, rfl⟩
    have hB : Below x12.heap.size x12 x12a := by rw [hal]; exact (Below.refl _ _).alloc (Nat.le_refl _) _
    have HB13 : Hid (Below w.heap.size w x12a ∧ w.heap.size + 2 ≤ x12a.heap.size) := ⟨HB12.out.1.trans (hB.mono HB12.out.1.size), Nat.le_trans HB12.out.2 hB.size⟩
    have Hqs13 : Hid (LcIn x12a (fun x => (P x ∧ x < w.heap.size) ∨ w.heap.size + 2 ≤ x) ((Lm.lam ps).shift 1 0) (.slice o2 1 c2)) := LcIn.below hB Hqs12.out
    have Hqu13 : Hid (LcIn x12a (fun x => (P x ∧ x < w.heap.size) ∨ w.heap.size + 2 ≤ x) ((Lm.lam pu).shift 2 0) (.slice o5 1 c5)) := LcIn.below hB Hqu12.out
    have Hd13 : Hid (LcIn x12a (fun x => (P x ∧ x < w.heap.size) ∨ w.heap.size + 2 ≤ x) lastT (.slice o12 1 c12)) := LcIn.below hB HV12.out
    have HRWt13 : Hid (RowAt x12a w.heap.size 54 #[.int .i64 3, .int .i64 0, .slice (some ⟨g, 0, none⟩) 2 cz]) := HRWt12.out.below hB HRWt12.out.lt
    have HRWz13 : Hid (RowAt x12a (w.heap.size + 1) 54 #[.int .i64 0, .int .i64 0, .slice none 0 0]) := HRWz12.out.below hB HRWz12.out.lt
    have HRWB13 : Hid (RowAt x12a x2.heap.size 54 #[.int .i64 2, .int .i64 0, .slice o2 1 c2]) := HRWB12.out.below hB HRWB12.out.lt
    have HRWC13 : Hid (RowAt x12a x5.heap.size 54 #[.int .i64 2, .int .i64 0, .slice o5 1 c5]) := HRWC12.out.below hB HRWC12.out.lt
    have HRWD13 : Hid (RowAt x12a x12.heap.size 54 #[.int .i64 2, .int .i64 0, .slice o12 1 c12]) := by unfold Hid; rw [hal]; exact RowAt.new _ _ _
    have hsD : x12a.heap.size = x12.heap.size + 1 := by rw [hal]; simp
    have HALD := hideT' hal
    clear hal hB
    go_wp2_with fail
    rw [← HALD.out]
    have hqs := Hqs13.out
    have hqu := Hqu13.out
    have hd := Hd13.out
    have hRz : RowAt x12a (w.heap.size + 1) 54 #[.int .i64 0, .int .i64 0, .slice none 0 0] := HRWz13.out
    have HBW : Hid (Below w.heap.size w x12a) := HB13.out.1
    have hX2 := HB13.out.2
    have hWB := HRWB13.out
    have hlB : x2.heap.size < x12a.heap.size := hWB.lt
    have rB0 : x12a.cell? ⟨x2.heap.size, 0, none⟩ = some (.int .i64 2) := by rw [cell_of_row _ _ _ _ _ _ hWB]; rfl
    have rB1 : x12a.cell? ⟨x2.heap.size, 1, none⟩ = some (.int .i64 0) := by rw [cell_of_row _ _ _ _ _ _ hWB]; rfl
    have rB2 : x12a.cell? ⟨x2.heap.size, 2, none⟩ = some (.slice o2 1 c2) := by rw [cell_of_row _ _ _ _ _ _ hWB]; rfl
    have hnB : x2.heap.size ≠ w.heap.size + 1 := by have := HB2.out.2; omega
    have hWC := HRWC13.out
    have hlC : x5.heap.size < x12a.heap.size := hWC.lt
    have rC0 : x12a.cell? ⟨x5.heap.size, 0, none⟩ = some (.int .i64 2) := by rw [cell_of_row _ _ _ _ _ _ hWC]; rfl
    have rC1 : x12a.cell? ⟨x5.heap.size, 1, none⟩ = some (.int .i64 0) := by rw [cell_of_row _ _ _ _ _ _ hWC]; rfl
    have rC2 : x12a.cell? ⟨x5.heap.size, 2, none⟩ = some (.slice o5 1 c5) := by rw [cell_of_row _ _ _ _ _ _ hWC]; rfl
    have hnC : x5.heap.size ≠ w.heap.size + 1 := by have := HB5.out.2; omega
    have hWD := HRWD13.out
    have hlD : x12.heap.size < x12a.heap.size := hWD.lt
    have rD0 : x12a.cell? ⟨x12.heap.size, 0, none⟩ = some (.int .i64 2) := by rw [cell_of_row _ _ _ _ _ _ hWD]; rfl
    have rD1 : x12a.cell? ⟨x12.heap.size, 1, none⟩ = some (.int .i64 0) := by rw [cell_of_row _ _ _ _ _ _ hWD]; rfl
    have rD2 : x12a.cell? ⟨x12.heap.size, 2, none⟩ = some (.slice o12 1 c12) := by rw [cell_of_row _ _ _ _ _ _ hWD]; rfl
    have hnD : x12.heap.size ≠ w.heap.size + 1 := by have := HB12.out.2; omega
    have hS : ∀ x, x < x12a.heap.size → x ≠ w.heap.size + 1 → x12a.drew.heap[x]? = x12a.heap[x]? := fun _ _ _ => rfl
    refine held_begin (fun w' => ∀ x, x < x12a.heap.size → x ≠ w.heap.size + 1 → w'.heap[x]? = x12a.heap[x]?) (by kernel_rfl) ?_
    have hXd : x12a.drew.heap.size = x12a.heap.size := rfl
    refine held_valS 0 (some 47) rfl rfl (by kernel_rfl) (by kernel_rfl) (by kernel_rfl) noPanic_put rfl (.agg (lcC 2 0 (.slice o2 1 c2))) (fun w' h => by unfold lcC; have q0 := ((World.cell?_of_block (w := x12a) (a := ⟨x2.heap.size, 0, none⟩) (h (x2.heap.size) hlB hnB)).trans rB0); have q1 := ((World.cell?_of_block (w := x12a) (a := ⟨x2.heap.size, 1, none⟩) (h (x2.heap.size) hlB hnB)).trans rB1); have q2 := ((World.cell?_of_block (w := x12a) (a := ⟨x2.heap.size, 2, none⟩) (h (x2.heap.size) hlB hnB)).trans rB2); go_simp) hS ?_
    simp only [Act.put, List.setIfInBounds_toArray, List.set_cons_zero, List.set_cons_succ]
    refine held_valS 1 (some 48) rfl rfl (by kernel_rfl) (by kernel_rfl) (by kernel_rfl) noPanic_put rfl (.agg (lcC 2 0 (.slice o5 1 c5))) (fun w' h => by unfold lcC; have q0 := ((World.cell?_of_block (w := x12a) (a := ⟨x5.heap.size, 0, none⟩) (h (x5.heap.size) hlC hnC)).trans rC0); have q1 := ((World.cell?_of_block (w := x12a) (a := ⟨x5.heap.size, 1, none⟩) (h (x5.heap.size) hlC hnC)).trans rC1); have q2 := ((World.cell?_of_block (w := x12a) (a := ⟨x5.heap.size, 2, none⟩) (h (x5.heap.size) hlC hnC)).trans rC2); go_simp) hS ?_
    simp only [Act.put, List.setIfInBounds_toArray, List.set_cons_zero, List.set_cons_succ]
    refine held_valS 2 (some 49) rfl rfl (by kernel_rfl) (by kernel_rfl) (by kernel_rfl) noPanic_put rfl (.agg (lcC 2 0 (.slice o12 1 c12))) (fun w' h => by unfold lcC; have q0 := ((World.cell?_of_block (w := x12a) (a := ⟨x12.heap.size, 0, none⟩) (h (x12.heap.size) hlD hnD)).trans rD0); have q1 := ((World.cell?_of_block (w := x12a) (a := ⟨x12.heap.size, 1, none⟩) (h (x12.heap.size) hlD hnD)).trans rD1); have q2 := ((World.cell?_of_block (w := x12a) (a := ⟨x12.heap.size, 2, none⟩) (h (x12.heap.size) hlD hnD)).trans rD2); go_simp) hS ?_
    simp only [Act.put, List.setIfInBounds_toArray, List.set_cons_zero, List.set_cons_succ]
    have h47_d : LcIn x12a.drew (fun x => (P x ∧ x < w.heap.size) ∨ w.heap.size + 2 ≤ x) ((Lm.lam ps).shift 1 0) (.slice o2 1 c2) := LcIn.keep (w := x12a) (w' := x12a.drew) (Nat.le_refl _) (fun _ _ _ => rfl) (fun _ h _ => h) hqs
    have h48_d : LcIn x12a.drew (fun x => (P x ∧ x < w.heap.size) ∨ w.heap.size + 2 ≤ x) ((Lm.lam pu).shift 2 0) (.slice o5 1 c5) := LcIn.keep (w := x12a) (w' := x12a.drew) (Nat.le_refl _) (fun _ _ _ => rfl) (fun _ h _ => h) hqu
    have h49_d : LcIn x12a.drew (fun x => (P x ∧ x < w.heap.size) ∨ w.heap.size + 2 ≤ x) lastT (.slice o12 1 c12) := LcIn.keep (w := x12a) (w' := x12a.drew) (Nat.le_refl _) (fun _ _ _ => rfl) (fun _ h _ => h) hd
    refine held_call 3 (some 50) (by kernel_rfl) rfl rfl rfl 84 #[.agg (lcC 2 0 (.slice o5 1 c5)), .agg (lcC 2 0 (.slice o12 1 c12))] (by go_simp) _ (lcApp_any ((Lm.lam pu).shift 2 0) lastT _ _ (fun x => (P x ∧ x < w.heap.size) ∨ w.heap.size + 2 ≤ x) x12a.drew h48_d h49_d) ?_
    rintro e v1 ⟨⟨z1, rfl, hz1⟩, hw1⟩
    have hw1 : Below x12a.heap.size x12a v1 := ⟨hw1.os, hw1.tape, hw1.output, hw1.size, hw1.block⟩
    have hsz1 := hw1.size
    have hS1 : ∀ x, x < x12a.heap.size → x ≠ w.heap.size + 1 → v1.heap[x]? = x12a.heap[x]? := fun x hx hn => (hw1.block x (by omega)).trans (hS x hx hn)
    have hRz1 : RowAt v1 (w.heap.size + 1) 54 #[.int .i64 0, .int .i64 0, .slice none 0 0] := hRz.below hw1 (by omega)
    have h47_1 : LcIn v1 (fun x => (P x ∧ x < w.heap.size) ∨ w.heap.size + 2 ≤ x) ((Lm.lam ps).shift 1 0) (.slice o2 1 c2) := LcIn.below hw1 hqs
    have h48_1 : LcIn v1 (fun x => (P x ∧ x < w.heap.size) ∨ w.heap.size + 2 ≤ x) ((Lm.lam pu).shift 2 0) (.slice o5 1 c5) := LcIn.below hw1 hqu
    have h49_1 : LcIn v1 (fun x => (P x ∧ x < w.heap.size) ∨ w.heap.size + 2 ≤ x) lastT (.slice o12 1 c12) := LcIn.below hw1 hd
    obtain ⟨oo1, cc1, hzz1⟩ : ∃ o c, z1 = .slice o 2 c := hz1.form
    subst hzz1
    have h50_1 : LcIn v1 (fun x => (P x ∧ x < w.heap.size) ∨ w.heap.size + 2 ≤ x) (.app ((Lm.lam pu).shift 2 0) lastT) (.slice oo1 2 cc1) := LcIn.mono (fun x hx _ => by rcases hx with hx | hx; exact hx; exact .inr (by omega)) hz1
    refine ⟨_, rfl, hS1, ?_⟩
    simp only [Act.put, List.setIfInBounds_toArray, List.set_cons_zero, List.set_cons_succ]
    refine held_call 4 (some 51) (by kernel_rfl) rfl rfl rfl 82 #[.agg (lcC 3 0 (.slice oo1 2 cc1))] (by go_simp) _ (lcLam_any (.app ((Lm.lam pu).shift 2 0) lastT) _ (fun x => (P x ∧ x < w.heap.size) ∨ w.heap.size + 2 ≤ x) v1 h50_1) ?_
    rintro e v2 ⟨⟨z2, rfl, hz2⟩, hw2⟩
    have hsz2 := hw2.size
    have hS2 : ∀ x, x < x12a.heap.size → x ≠ w.heap.size + 1 → v2.heap[x]? = x12a.heap[x]? := fun x hx hn => (hw2.block x (by omega)).trans (hS1 x hx hn)
    have hRz2 : RowAt v2 (w.heap.size + 1) 54 #[.int .i64 0, .int .i64 0, .slice none 0 0] := hRz1.below hw2 (by omega)
    have h47_2 : LcIn v2 (fun x => (P x ∧ x < w.heap.size) ∨ w.heap.size + 2 ≤ x) ((Lm.lam ps).shift 1 0) (.slice o2 1 c2) := LcIn.below hw2 h47_1
    have h48_2 : LcIn v2 (fun x => (P x ∧ x < w.heap.size) ∨ w.heap.size + 2 ≤ x) ((Lm.lam pu).shift 2 0) (.slice o5 1 c5) := LcIn.below hw2 h48_1
    have h49_2 : LcIn v2 (fun x => (P x ∧ x < w.heap.size) ∨ w.heap.size + 2 ≤ x) lastT (.slice o12 1 c12) := LcIn.below hw2 h49_1
    have h50_2 : LcIn v2 (fun x => (P x ∧ x < w.heap.size) ∨ w.heap.size + 2 ≤ x) (.app ((Lm.lam pu).shift 2 0) lastT) (.slice oo1 2 cc1) := LcIn.below hw2 h50_1
    obtain ⟨oo2, cc2, hzz2⟩ : ∃ o c, z2 = .slice o 1 c := hz2.form
    subst hzz2
    have h51_2 : LcIn v2 (fun x => (P x ∧ x < w.heap.size) ∨ w.heap.size + 2 ≤ x) (.lam (.app ((Lm.lam pu).shift 2 0) lastT)) (.slice oo2 1 cc2) := LcIn.mono (fun x hx _ => by rcases hx with hx | hx; exact hx; exact .inr (by omega)) hz2
    refine ⟨_, rfl, hS2, ?_⟩
    simp only [Act.put, List.setIfInBounds_toArray, List.set_cons_zero, List.set_cons_succ]
    refine held_call 5 (some 52) (by kernel_rfl) rfl rfl rfl 84 #[.agg (lcC 2 0 (.slice o2 1 c2)), .agg (lcC 2 0 (.slice oo2 1 cc2))] (by go_simp) _ (lcApp_any ((Lm.lam ps).shift 1 0) (.lam (.app ((Lm.lam pu).shift 2 0) lastT)) _ _ (fun x => (P x ∧ x < w.heap.size) ∨ w.heap.size + 2 ≤ x) v2 h47_2 h51_2) ?_
    rintro e v3 ⟨⟨z3, rfl, hz3⟩, hw3⟩
    have hsz3 := hw3.size
    have hS3 : ∀ x, x < x12a.heap.size → x ≠ w.heap.size + 1 → v3.heap[x]? = x12a.heap[x]? := fun x hx hn => (hw3.block x (by omega)).trans (hS2 x hx hn)
    have hRz3 : RowAt v3 (w.heap.size + 1) 54 #[.int .i64 0, .int .i64 0, .slice none 0 0] := hRz2.below hw3 (by omega)
    have h47_3 : LcIn v3 (fun x => (P x ∧ x < w.heap.size) ∨ w.heap.size + 2 ≤ x) ((Lm.lam ps).shift 1 0) (.slice o2 1 c2) := LcIn.below hw3 h47_2
    have h48_3 : LcIn v3 (fun x => (P x ∧ x < w.heap.size) ∨ w.heap.size + 2 ≤ x) ((Lm.lam pu).shift 2 0) (.slice o5 1 c5) := LcIn.below hw3 h48_2
    have h49_3 : LcIn v3 (fun x => (P x ∧ x < w.heap.size) ∨ w.heap.size + 2 ≤ x) lastT (.slice o12 1 c12) := LcIn.below hw3 h49_2
    have h50_3 : LcIn v3 (fun x => (P x ∧ x < w.heap.size) ∨ w.heap.size + 2 ≤ x) (.app ((Lm.lam pu).shift 2 0) lastT) (.slice oo1 2 cc1) := LcIn.below hw3 h50_2
    have h51_3 : LcIn v3 (fun x => (P x ∧ x < w.heap.size) ∨ w.heap.size + 2 ≤ x) (.lam (.app ((Lm.lam pu).shift 2 0) lastT)) (.slice oo2 1 cc2) := LcIn.below hw3 h51_2
    obtain ⟨oo3, cc3, hzz3⟩ : ∃ o c, z3 = .slice o 2 c := hz3.form
    subst hzz3
    have h52_3 : LcIn v3 (fun x => (P x ∧ x < w.heap.size) ∨ w.heap.size + 2 ≤ x) (.app ((Lm.lam ps).shift 1 0) (.lam (.app ((Lm.lam pu).shift 2 0) lastT))) (.slice oo3 2 cc3) := LcIn.mono (fun x hx _ => by rcases hx with hx | hx; exact hx; exact .inr (by omega)) hz3
    refine ⟨_, rfl, hS3, ?_⟩
    simp only [Act.put, List.setIfInBounds_toArray, List.set_cons_zero, List.set_cons_succ]
    refine held_call 6 (some 53) (by kernel_rfl) rfl rfl rfl 82 #[.agg (lcC 3 0 (.slice oo3 2 cc3))] (by go_simp) _ (lcLam_any (.app ((Lm.lam ps).shift 1 0) (.lam (.app ((Lm.lam pu).shift 2 0) lastT))) _ (fun x => (P x ∧ x < w.heap.size) ∨ w.heap.size + 2 ≤ x) v3 h52_3) ?_
    rintro e v4 ⟨⟨z4, rfl, hz4⟩, hw4⟩
    have hsz4 := hw4.size
    have hS4 : ∀ x, x < x12a.heap.size → x ≠ w.heap.size + 1 → v4.heap[x]? = x12a.heap[x]? := fun x hx hn => (hw4.block x (by omega)).trans (hS3 x hx hn)
    have hRz4 : RowAt v4 (w.heap.size + 1) 54 #[.int .i64 0, .int .i64 0, .slice none 0 0] := hRz3.below hw4 (by omega)
    have h47_4 : LcIn v4 (fun x => (P x ∧ x < w.heap.size) ∨ w.heap.size + 2 ≤ x) ((Lm.lam ps).shift 1 0) (.slice o2 1 c2) := LcIn.below hw4 h47_3
    have h48_4 : LcIn v4 (fun x => (P x ∧ x < w.heap.size) ∨ w.heap.size + 2 ≤ x) ((Lm.lam pu).shift 2 0) (.slice o5 1 c5) := LcIn.below hw4 h48_3
    have h49_4 : LcIn v4 (fun x => (P x ∧ x < w.heap.size) ∨ w.heap.size + 2 ≤ x) lastT (.slice o12 1 c12) := LcIn.below hw4 h49_3
    have h50_4 : LcIn v4 (fun x => (P x ∧ x < w.heap.size) ∨ w.heap.size + 2 ≤ x) (.app ((Lm.lam pu).shift 2 0) lastT) (.slice oo1 2 cc1) := LcIn.below hw4 h50_3
    have h51_4 : LcIn v4 (fun x => (P x ∧ x < w.heap.size) ∨ w.heap.size + 2 ≤ x) (.lam (.app ((Lm.lam pu).shift 2 0) lastT)) (.slice oo2 1 cc2) := LcIn.below hw4 h51_3
    have h52_4 : LcIn v4 (fun x => (P x ∧ x < w.heap.size) ∨ w.heap.size + 2 ≤ x) (.app ((Lm.lam ps).shift 1 0) (.lam (.app ((Lm.lam pu).shift 2 0) lastT))) (.slice oo3 2 cc3) := LcIn.below hw4 h52_3
    obtain ⟨oo4, cc4, hzz4⟩ : ∃ o c, z4 = .slice o 1 c := hz4.form
    subst hzz4
    have h53_4 : LcIn v4 (fun x => (P x ∧ x < w.heap.size) ∨ w.heap.size + 2 ≤ x) (.lam (.app ((Lm.lam ps).shift 1 0) (.lam (.app ((Lm.lam pu).shift 2 0) lastT)))) (.slice oo4 1 cc4) := LcIn.mono (fun x hx _ => by rcases hx with hx | hx; exact hx; exact .inr (by omega)) hz4
    refine ⟨_, rfl, hS4, ?_⟩
    simp only [Act.put, List.setIfInBounds_toArray, List.set_cons_zero, List.set_cons_succ]
    have hb9 : Below x12a.heap.size x12a v4 := ((hw1.trans (hw2.mono hw1.size)).trans (hw3.mono (by omega))).trans (hw4.mono (by omega))
    refine held_one 7 (by kernel_rfl) rfl rfl ?_
    intro K hK
    refine store_3_wp 54 (.tmp 2) (.tmp 53) rfl rfl zero_lcT.2 (w.heap.size + 1) (lcC 2 0 (.slice oo4 1 cc4)) rfl (lcC_one _ _ _ rfl) rfl rfl #[.int .i64 0, .int .i64 0, .slice none 0 0] rfl hRz4 ?_
    intro w9 hR9 hg9 hs9
    have hS9 : ∀ x, x < x12a.heap.size → x ≠ w.heap.size + 1 → w9.heap[x]? = x12a.heap[x]? := fun x hx hn => by rw [hg9.block x (by omega) (by intro e; injection e with e; exact hn e)]; exact hS4 x hx hn
    refine hK.out _ _ hS9 ?_
    refine wpAnyH_done (by kernel_rfl) ?_ _
    refine NoPanic.normal ?_
    have hB9 : Below w.heap.size w w9 := by
      have h1 : Below w.heap.size w x12a := HBW.out
      exact below9 h1 (by omega) hg9 hb9
    have HF : Hid (LcIn w9 (fun x => P x ∨ w.heap.size ≤ x) (.lam (.app ((Lm.lam ps).shift 1 0) (.lam (.app ((Lm.lam pu).shift 2 0) lastT)))) (.slice oo4 1 cc4) ∧ Below w.heap.size w w9 ∧ RowAt w9 (w.heap.size + 1) 54 (lcC 2 0 (.slice oo4 1 cc4))) := ⟨LcIn.keep (w := v4) (by omega) (fun x hx hl => hg9.block x hl (by intro e; injection e with e; rcases hx with hx | hx <;> omega)) (fun x hx _ => by rcases hx with hx | hx; exact .inl hx.1; exact .inr (by omega)) h53_4, hB9, hR9⟩
    clear hK hS hS1 hS2 hS3 hS4 hS9 hw1 hw2 hw3 hw4 hg9 hR9 hRz1 hRz2 hRz3 hRz4 hRz hb9 hB9
    go_wp2
    exact bodyPost_ret (v := .agg (lcC 2 0 (.slice oo4 1 cc4))) (results_cell_row Try.results80 _ _ (w.heap.size + 1) 54 (lcC 2 0 (.slice oo4 1 cc4)) (0, 0) _ rfl HF.out.2.2 Try.underlying54 rfl zero_lcT.2) rfl ⟨⟨_, rfl, HF.out.1⟩, HF.out.2.1⟩
theorem lfPass_all : ∀ N, PlC N := by
  intro N
  induction N using Nat.strongRecOn with
  | _ N IH => exact lfPass_step N IH
end Go.Proofs.Ytbnagagdboeedaa

/-
  What changedAt of the program makes of a tree: anew, with what a function gives in the place of the node of a number.
-/
namespace Go.Proofs.Ytbnagagdboeedaa
open Go.RowKit BL
set_option linter.unusedVariables false

def ptrsV (bs : List Nat) : List Value := bs.map fun b => .pointer (some ⟨b, 0, none⟩)
theorem ptrsV_len (bs : List Nat) : (ptrsV bs).length = bs.length := by simp [ptrsV]
set_option maxHeartbeats 2000000 in
set_option maxRecDepth 100000 in
theorem clone_any (g cap m : Nat) (bs : List Nat) (w : World) (hm : m = bs.length) (h2 : m ≤ 2) (h1 : 1 ≤ m) (hgl : g < w.heap.size) (hc : ∀ i b, bs[i]? = some b → w.cell? ⟨g, i, none⟩ = some (.pointer (some ⟨b, 0, none⟩))) :
    Calls Try.prog 105 #[.slice (some ⟨g, 0, none⟩) m cap] w fun e w' => (∃ v, e = .returned v ∧ w'.ownsRow w.heap.size 60 1 v m (ptrsV bs)) ∧ Below w.heap.size w w' := by
  obtain ⟨i0, hi, hz0, hz1, hz2⟩ := info_parts info_ptree
  have hq : ∀ (w : World) (a : Option Addr) (n c n' c' : Nat), (binOp .eql 96 (.slice a n c) (.slice none n' c')).run Try.prog w = .ok (.bool a.isNone) w := fun w a n c n' c' => Lib.run_eql_slice_nil w _ _ a n c n' c' Try.underlying96
  have HC := hideT' hc
  have HM := hideT' hm
  clear hc hm
  go_enter Try.func105, Try.ntmps105
  go_wp2_with (at_builtin; refine wpList_append_own _ rfl _ _ 96 rfl w.heap.size 60 i0 (.pointer none) 1 8 Try.underlying96 hi hz0 hz1 hz2 rfl (by decide) _ _ _ rfl (World.ownsRow_made w #[] 0 (Nat.le_refl _) (Nat.zero_le _) rfl) ⟨g, 0, none⟩ m cap (ptrsV bs) rfl ?qc1 ?qc2 ?qc3 ?qc4 ?qc5 ?qc6 ?_)
  case qc1 => rw [ptrsV_len, ← HM.out]; omega
  case qc2 =>
    intro j u hj
    rw [Addr.add_lit]
    refine Lib.cell?_alloc_some _ ?_
    unfold ptrsV at hj
    rw [List.getElem?_map] at hj
    cases hb : bs[j]? with
    | none => rw [hb] at hj; cases hj
    | some b =>
      rw [hb] at hj
      injection hj with hj
      subst hj
      have := HC.out j b hb
      rw [Nat.zero_add]
      exact this
  case qc3 => intro u hu; obtain ⟨x, _, rfl⟩ := List.mem_map.1 hu; rfl
  case qc4 => unfold maxLen; omega
  case qc5 => omega
  case qc6 => simp
  intro v' w1 hown hgrow hnil
  have HF : Hid (w1.ownsRow w.heap.size 60 1 v' m (ptrsV bs) ∧ Below w.heap.size w w1) := ⟨by simpa using hown, ((Below.refl _ w).alloc (Nat.le_refl _) _).grown hgrow (by simp) (by intro k hk; simp [Value.ownBlock] at hk; omega)⟩
  clear hown hgrow hnil
  go_wp2
  go_ret
  exact ⟨⟨v', rfl, HF.out.1⟩, HF.out.2⟩

/-- A tree with a node changed. -/
def Lm.chgAt (f : Lm → Lm) : Lm → Nat → Lm
  | t, 0 => f t
  | .var n, _ + 1 => .var n
  | .lam t, k + 1 => if k < t.sz then .lam (Lm.chgAt f t k) else .lam t
  | .app s t, k + 1 => if k < s.sz then .app (Lm.chgAt f s k) t else if k < s.sz + t.sz then .app s (Lm.chgAt f t (k - s.sz)) else .app s t
def Lm.subAt : Lm → Nat → Option Lm
  | t, 0 => some t
  | .var _, _ + 1 => none
  | .lam t, k + 1 => t.subAt k
  | .app s t, k + 1 => if k < s.sz then s.subAt k else t.subAt (k - s.sz)
theorem Lm.subAt_lt : ∀ {t : Lm} {k : Nat} {s : Lm}, t.subAt k = some s → k < t.sz ∧ s.sz ≤ t.sz
  | .var n, 0, s, h => by rw [Lm.subAt] at h; injection h with h; subst h; exact ⟨Lm.sz_pos _, Nat.le_refl _⟩
  | .var n, k + 1, s, h => by rw [Lm.subAt] at h; cases h
  | .lam t, 0, s, h => by rw [Lm.subAt] at h; injection h with h; subst h; exact ⟨Lm.sz_pos _, Nat.le_refl _⟩
  | .lam t, k + 1, s, h => by rw [Lm.subAt] at h; have := Lm.subAt_lt h; simp only [Lm.sz]; omega
  | .app p q, 0, s, h => by rw [Lm.subAt] at h; injection h with h; subst h; exact ⟨Lm.sz_pos _, Nat.le_refl _⟩
  | .app p q, k + 1, s, h => by
    rw [Lm.subAt] at h
    split at h
    · have := Lm.subAt_lt h; simp only [Lm.sz]; omega
    · have := Lm.subAt_lt h; simp only [Lm.sz]; omega
/-- What becomes of the parts, from a number on. -/
def chgL (f : Lm → Lm) (k : Nat) : Nat → List Lm → List Lm
  | _, [] => []
  | a, p :: ps => (if a ≤ k ∧ k < a + p.sz then Lm.chgAt f p (k - a) else p) :: chgL f k (a + p.sz) ps
def szL : List Lm → Nat
  | [] => 0
  | p :: ps => p.sz + szL ps
theorem szL_app (p q : List Lm) : szL (p ++ q) = szL p + szL q := by
  induction p with
  | nil => simp [szL]
  | cons x p ih => simp only [List.cons_append, szL, ih]; omega
theorem chgL_app (f : Lm → Lm) (k : Nat) (q : List Lm) : ∀ (p : List Lm) (a : Nat), chgL f k a (p ++ q) = chgL f k a p ++ chgL f k (a + szL p) q
  | [], a => by simp [chgL, szL]
  | x :: p, a => by simp only [List.cons_append, chgL, szL]; rw [chgL_app f k q p, Nat.add_assoc]
theorem chgL_len (f : Lm → Lm) (k : Nat) : ∀ (p : List Lm) (a : Nat), (chgL f k a p).length = p.length
  | [], a => rfl
  | x :: p, a => by simp only [chgL, List.length_cons, chgL_len f k p]
theorem chgAt_node (f : Lm → Lm) (t : Lm) (k : Nat) : nodeOf t.kd t.nm (chgL f (k + 1) 1 t.kids) = some (Lm.chgAt f t (k + 1)) := by
  cases t with
  | var n => simp [Lm.kids, chgL, Lm.kd, Lm.nm, nodeOf, Lm.chgAt]
  | lam t =>
    simp only [Lm.kids, chgL, Lm.kd, Lm.nm, nodeOf, Lm.chgAt]
    by_cases h : k < t.sz
    · rw [if_pos (show 1 ≤ k + 1 ∧ k + 1 < 1 + t.sz by omega), if_pos h]; simp
    · rw [if_neg (show ¬ (1 ≤ k + 1 ∧ k + 1 < 1 + t.sz) by omega), if_neg h]; simp
  | app s t =>
    simp only [Lm.kids, chgL, Lm.kd, Lm.nm, nodeOf, Lm.chgAt]
    by_cases h : k < s.sz
    · rw [if_pos (show 1 ≤ k + 1 ∧ k + 1 < 1 + s.sz by omega), if_neg (show ¬ (1 + s.sz ≤ k + 1 ∧ k + 1 < 1 + s.sz + t.sz) by omega), if_pos h]; simp
    · rw [if_neg (show ¬ (1 ≤ k + 1 ∧ k + 1 < 1 + s.sz) by omega), if_neg h]
      by_cases h2 : k < s.sz + t.sz
      · rw [if_pos (show 1 + s.sz ≤ k + 1 ∧ k + 1 < 1 + s.sz + t.sz by omega), if_pos h2]
        rw [show k + 1 - (1 + s.sz) = k - s.sz by omega]; simp
      · rw [if_neg (show ¬ (1 + s.sz ≤ k + 1 ∧ k + 1 < 1 + s.sz + t.sz) by omega), if_neg h2]; simp
theorem subAt_kid {t s : Lm} {k : Nat} (h : t.subAt (k + 1) = some s) : ∀ (As : List Lm) (T : Lm) (Bs : List Lm), t.kids = As ++ T :: Bs → 1 + szL As ≤ k + 1 → k + 1 < 1 + szL As + T.sz → T.subAt (k + 1 - (1 + szL As)) = some s := by
  intro As T Bs hk h1 h2
  cases t with
  | var n => simp [Lm.kids] at hk
  | lam t =>
    simp only [Lm.kids] at hk
    match As, hk with
    | [], hk =>
      cases hk
      simp only [szL, Nat.add_zero] at h1 h2 ⊢
      rw [Lm.subAt] at h
      rw [show k + 1 - 1 = k by omega]; exact h
    | [_], hk => simp at hk
    | _ :: _ :: _, hk => simp at hk
  | app p q =>
    simp only [Lm.kids] at hk
    rw [Lm.subAt] at h
    match As, hk with
    | [], hk =>
      cases hk
      simp only [szL, Nat.add_zero] at h1 h2 ⊢
      rw [if_pos (by omega)] at h
      rw [show k + 1 - 1 = k by omega]; exact h
    | [_], hk =>
      cases hk
      simp only [szL, Nat.add_zero] at h1 h2 ⊢
      rw [if_neg (by omega)] at h
      rw [show k + 1 - (1 + p.sz) = k - p.sz by omega]; exact h
    | [_, _], hk => simp at hk
    | _ :: _ :: _ :: _, hk => simp at hk
theorem chgAt_szle (f : Lm → Lm) (M : Nat) (hf : ∀ s, (f s).sz ≤ M + s.sz) : ∀ (t : Lm) (k : Nat), (Lm.chgAt f t k).sz ≤ M + t.sz
  | .var n, 0 => by rw [Lm.chgAt]; exact hf _
  | .var n, k + 1 => by rw [Lm.chgAt]; simp only [Lm.sz]; omega
  | .lam t, 0 => by rw [Lm.chgAt]; exact hf _
  | .lam t, k + 1 => by
    rw [Lm.chgAt]
    split
    · have := chgAt_szle f M hf t k; simp only [Lm.sz]; omega
    · simp only [Lm.sz]; omega
  | .app s t, 0 => by rw [Lm.chgAt]; exact hf _
  | .app s t, k + 1 => by
    rw [Lm.chgAt]
    split
    · have := chgAt_szle f M hf s k; simp only [Lm.sz]; omega
    · split
      · have := chgAt_szle f M hf t (k - s.sz); simp only [Lm.sz]; omega
      · simp only [Lm.sz]; omega
/-- What is asked of the function. -/
def ChgOk (cf : Nat) (pre : Lm → Bool) (f : Lm → Lm) (Z : Nat) : Prop := ∀ (s : Lm) (b : Nat) (P : Nat → Prop) (w : World), TrIn w P s b → pre s = true → s.sz ≤ Z → s.bd →
    Calls Try.prog cf #[.pointer (some ⟨b, 0, none⟩)] w fun e w' => (∃ b', e = .returned (.pointer (some ⟨b', 0, none⟩)) ∧ TrIn w' (fun x => P x ∨ w.heap.size ≤ x) (f s) b') ∧ Below w.heap.size w w'
def ChgC (cf : Nat) (pre : Lm → Bool) (f : Lm → Lm) (Z : Nat) (N : Nat) : Prop := ∀ (t : Lm), t.sz ≤ N → ∀ (s : Lm) (b k : Nat) (P : Nat → Prop) (w : World), TrIn w P t b → t.subAt k = some s → pre s = true → t.sz ≤ Z → t.bd →
    Calls Try.prog 66 #[.pointer (some ⟨b, 0, none⟩), .int .i64 (k : Int), .func (.func cf) #[] #[]] w fun e w' => (∃ b', e = .returned (.pointer (some ⟨b', 0, none⟩)) ∧ TrIn w' (fun x => P x ∨ w.heap.size ≤ x) (Lm.chgAt f t k) b') ∧ Below w.heap.size w w'
theorem kids_ptrs {w : World} {P : Nat → Prop} {t : Lm} {b : Nat} (h : TrIn w P t b) : ∃ (o : Option Addr) (c : Nat) (ks : List (Nat × Lm)), w.cell? ⟨b, 3, none⟩ = some (.slice o t.kids.length c) ∧ ks.map Prod.snd = t.kids ∧ (∀ p ∈ ks, TrIn w P p.2 p.1) ∧ (t.kids ≠ [] → ∃ g, o = some ⟨g, 0, none⟩ ∧ g < w.heap.size ∧ P g ∧ ∀ i (p : Nat × Lm), ks[i]? = some p → w.cell? ⟨g, i, none⟩ = some (.pointer (some ⟨p.1, 0, none⟩))) := by
  cases t with
  | var n =>
    obtain ⟨_, u, o, c, h⟩ := h
    exact ⟨o, c, [], by rw [cell_of_row _ _ _ _ _ _ h]; rfl, rfl, by simp, fun h => absurd rfl h⟩
  | lam t =>
    obtain ⟨_, u, g, c, b1, h, hg, hc, h1⟩ := h
    refine ⟨_, c, [(b1, t)], by rw [cell_of_row _ _ _ _ _ _ h]; rfl, rfl, by simpa using h1, fun _ => ⟨g, rfl, hg.1, hg.2, fun i p hi => ?_⟩⟩
    match i, hi with
    | 0, hi => cases hi; exact hc
    | i + 1, hi => simp at hi
  | app s t =>
    obtain ⟨_, u, g, c, b1, b2, h, hg, hc, hc2, h1, h2⟩ := h
    refine ⟨_, c, [(b1, s), (b2, t)], by rw [cell_of_row _ _ _ _ _ _ h]; rfl, rfl, by simp; exact ⟨h1, h2⟩, fun _ => ⟨g, rfl, hg.1, hg.2, fun i p hi => ?_⟩⟩
    match i, hi with
    | 0, hi => cases hi; exact hc
    | 1, hi => cases hi; exact hc2
    | i + 2, hi => simp at hi
set_option maxHeartbeats 8000000 in
set_option maxRecDepth 100000 in
theorem changedAt_step (cf : Nat) (pre : Lm → Bool) (f : Lm → Lm) (Z M : Nat) (eg : ∀ args w, (callFunc cf args).run Try.prog w = .ok (.enter cf args) w) (hf : ∀ s, (f s).sz ≤ M + s.sz) (hZ : Z ≤ 1000) (hM : M ≤ 900000) (hch : ChgOk cf pre f Z) (N : Nat) (IH : ∀ n, n < N → ChgC cf pre f Z n) : ChgC cf pre f Z N := by
  intro t ht s b k P w hT hsub hpre hsz hbd
  have hbl := hT.lt
  by_cases hk0 : k = 0
  · subst hk0
    have hts : t = s := by cases t <;> (rw [Lm.subAt] at hsub; injection hsub)
    subst hts
    have HC := hideT' (hch t b P w hT hpre hsz hbd)
    have HE : Hid (Lm.chgAt f t 0 = f t) := by unfold Hid; cases t <;> rw [Lm.chgAt]
    clear IH hT hsub hpre hbd
    go_enter Try.func66, Try.ntmps66
    go_wp2_with fail
    refine HC.out.mono ?_
    rintro e w2 ⟨⟨b', rfl, hT2⟩, hB2⟩
    have HF := hideT' (And.intro hT2 hB2)
    clear hT2 hB2
    go_wp2
    go_ret
    exact ⟨⟨b', rfl, by rw [HE.out]; exact HF.out.1⟩, HF.out.2⟩
  · obtain ⟨k', rfl⟩ : ∃ k', k = k' + 1 := ⟨k - 1, by omega⟩
    have hne : t.kids ≠ [] := by cases t <;> simp [Lm.kids, Lm.subAt] at hsub ⊢
    obtain ⟨o, c, ks, hpc, hks, hTk, hgo⟩ := kids_ptrs hT
    obtain ⟨g, rfl, hg, hPg, hcell⟩ := hgo hne
    obtain ⟨u, c0, c1, c2⟩ := hT.own3
    obtain ⟨q, hq⟩ : ∃ q, q = t.kids.length := ⟨_, rfl⟩
    have hq2 : q ≤ 2 := by rw [hq]; cases t <;> simp [Lm.kids]
    have hq1 : 1 ≤ q := by rw [hq]; exact List.length_pos_iff.2 hne
    rw [← hq] at hpc
    have hkl : q = (ks.map Prod.fst).length := by rw [hq, ← hks, List.length_map, List.length_map]
    have HCL := hideT' (clone_any g c q (ks.map Prod.fst) w hkl hq2 hq1 hg (fun i bb hi => by
      rw [List.getElem?_map] at hi
      cases hp : ks[i]? with
      | none => rw [hp] at hi; cases hi
      | some p => rw [hp] at hi; injection hi with hi; subst hi; exact hcell i p hp))
    have HIH := hideT' IH
    have HTN := hideT' ht
    have HT := hideT' hT
    have HSUB := hideT' (And.intro hsub (And.intro hpre hbd))
    have HQ := hideT' hq
    have HKS := hideT' hks
    have HTK := hideT' hTk
    have hkz : k' + 1 < t.sz := (Lm.subAt_lt hsub).1
    have hk1000 : k' + 1 ≤ 1000 := by omega
    have hkb : ((k' + 1 : Nat) : Int) ≠ 0 := by omega
    obtain ⟨K, hK⟩ : ∃ K : Nat, K = k' + 1 := ⟨_, rfl⟩
    rw [← hK] at hkb hkz hk1000 HSUB ⊢
    have hKz : ¬ (K : Int) = 0 := hkb
    have hKb : ((K : Int) == 0) = false := by simp only [beq_eq_false_iff_ne]; exact hKz
    have HNODE : Hid (nodeOf t.kd t.nm (chgL f K 1 t.kids) = some (Lm.chgAt f t K)) := by unfold Hid; rw [hK]; exact chgAt_node f t k'
    have HSK : Hid (∀ (As : List Lm) (T : Lm) (Bs : List Lm), t.kids = As ++ T :: Bs → 1 + szL As ≤ K → K < 1 + szL As + T.sz → T.subAt (K - (1 + szL As)) = some s) := by unfold Hid; rw [hK]; exact subAt_kid hsub
    obtain ⟨kd, hkd⟩ : ∃ kd, kd = t.kd := ⟨_, rfl⟩
    obtain ⟨nm, hnm⟩ : ∃ nm, nm = t.nm := ⟨_, rfl⟩
    rw [← hkd, ← hnm] at HNODE
    rw [← hkd] at c0
    rw [← hnm] at c1
    clear IH ht hT hsub hpre hbd hne hkl hcell hq hks hTk hkb hK hkd hnm
    go_enter Try.func66, Try.ntmps66
    go_wp2_with fail
    refine HCL.out.mono ?_
    rintro e w1 ⟨⟨v, rfl, hO1⟩, hB1⟩
    obtain ⟨ov, cv, hvv⟩ := own_formT hO1
    subst hvv
    have hgv : ∃ gv, ov = some ⟨gv, 0, none⟩ := by
      rcases hO1.2 with ⟨h, _⟩ | ⟨g1, cap1, cur, h, _⟩
      · injection h with h1 h2 h3; omega
      · injection h with h1 h2 h3; exact ⟨g1, h1⟩
    obtain ⟨gv, rfl⟩ := hgv
    have hgl := hO1.lt gv rfl
    have HO1 := hideT' hO1
    have HB1 := hideT' hB1
    have HGV : Hid (w.heap.size ≤ gv) := hgl.1
    clear hO1 hB1 hgl
    go_wp2_with fail
    go_loopg [8, 23] q (fun gg fv i wr => ∃ (As Bs : List (Nat × Lm)) (ns : List (Nat × Lm)) (F : Nat), gg = Bs.length ∧ Hid (ks = As ++ Bs ∧ ns.map Prod.snd = chgL f K 1 (As.map Prod.snd) ∧ F = 1 + szL (As.map Prod.snd) ∧ wr.ownsRow w.heap.size 60 1 (.slice (some ⟨gv, 0, none⟩) q cv) q (ptrsV (ns.map Prod.fst ++ Bs.map Prod.fst)) ∧ (∀ p ∈ ns, TrIn wr (fun x => (P x ∧ x < w.heap.size) ∨ (w.heap.size ≤ x ∧ x ≠ gv)) p.2 p.1) ∧ Below w.heap.size w wr) ∧ i = .int .i64 (As.length : Int) ∧ fv = .int .i64 (F : Int) ∧ F ≤ 1001 ∧ gv < wr.heap.size)
    case atStart => exact ⟨[], ks, [], 1, by rw [HQ.out, ← HKS.out, List.length_map], ⟨rfl, rfl, rfl, HO1.out, by simp, HB1.out⟩, rfl, rfl, by omega, (HO1.out.lt gv rfl).2⟩
    case round =>
      obtain ⟨As, Bs, ns, F, hgg, HS, rfl, rfl, hF, hgvl⟩ := hrel
      obtain ⟨j, hj⟩ : ∃ j, j = As.length := ⟨_, rfl⟩
      rw [← hj]
      have HJ := hideT' hj
      have hnl : ns.length = As.length := by
        have := congrArg List.length HS.out.2.1
        rw [List.length_map, chgL_len, List.length_map] at this
        exact this
      have HNL := hideT' hnl
      clear hj hnl
      have hqs : q = As.length + Bs.length := by rw [HQ.out, ← HKS.out, List.length_map, HS.out.1, List.length_append]
      cases Bs with
      | nil =>
        have hjm : j = q := by rw [HJ.out, hqs]; simp
        have hnlt : ¬ (j : Int) < (q : Int) := by omega
        obtain ⟨e1, e2, e3, hOw, hTn, hBr⟩ := HS.out
        simp only [List.map_nil, List.append_nil] at e1 hOw
        have HKids : Hid (KidsAt wr (fun x => P x ∨ w.heap.size ≤ x) (.slice (some ⟨gv, 0, none⟩) q cv) ns) := by
          refine ⟨_, cv, by rw [HNL.out, ← HJ.out, hjm], fun _ => ⟨gv, rfl, ⟨hgvl, .inr HGV.out⟩, fun i p hi => ?_⟩, fun p hp => TrIn.mono (fun x hx _ => by rcases hx with hx | hx; exact .inl hx.1; exact .inr hx.1) (hTn p hp)⟩
          have hil : i < ns.length := (List.getElem?_eq_some_iff.1 hi).1
          rw [World.ownsRow.cellAt hOw i (by rw [HNL.out, ← HJ.out] at hil; omega)]
          unfold ptrsV
          rw [List.getElem?_map, List.getElem?_map, hi]; rfl
        have HN2 : Hid (nodeOf kd nm (ns.map Prod.snd) = some (Lm.chgAt f t K)) := by unfold Hid; rw [e2, ← e1, HKS.out]; exact HNODE.out
        have HPS : Hid (∀ p ∈ ptsOf ns, p.2.1 ≤ 1000000 ∧ p.2.2 ≤ 1000000) := by
          intro p hp
          obtain ⟨y, hy, rfl⟩ := List.mem_map.1 hp
          have h1 : y.2 ∈ ns.map Prod.snd := List.mem_map_of_mem hy
          have hle : y.2.sz ≤ M + 1000 := by
            rw [e2, ← e1, HKS.out] at h1
            have key : ∀ (ls : List Lm) (a : Nat), (∀ l ∈ ls, l.sz ≤ 1000) → ∀ l ∈ chgL f K a ls, l.sz ≤ M + 1000 := by
              intro ls
              induction ls with
              | nil => intro a _ l hl; simp [chgL] at hl
              | cons z ls ih =>
                intro a hz l hl
                rw [chgL] at hl
                have hzz := hz z (by simp)
                rcases List.mem_cons.1 hl with rfl | hl
                · split
                  · have := chgAt_szle f M hf z (K - a); omega
                  · omega
                · exact ih _ (fun l h => hz l (by simp [h])) l hl
            exact key t.kids 1 (fun l hl => by have := Lm.kids_lt hl; omega) _ h1
          have h3 := y.2.dp_sz
          simp only; omega
        have d0 : wr.cell? ⟨b, 0, none⟩ = some (.int .i64 kd) := by rw [hBr.cell (p := ⟨b, 0, none⟩) hbl]; exact c0
        have d1 : wr.cell? ⟨b, 1, none⟩ = some (.int .i64 nm) := by rw [hBr.cell (p := ⟨b, 1, none⟩) hbl]; exact c1
        have d2 : wr.cell? ⟨b, 2, none⟩ = some (.int .i64 u) := by rw [hBr.cell (p := ⟨b, 2, none⟩) hbl]; exact c2
        have hbr : b < wr.heap.size := by have := hBr.size; omega
        have HBR := hideT' hBr
        clear e1 e2 e3 hOw hTn hBr HS hgg hqs
        go_wp2_with fail
        refine (treeOf_any kd nm u _ (ptsOf ns) wr HKids.out.pts (by unfold ptsOf; rw [List.length_map, HNL.out, ← HJ.out]; omega) HPS.out).mono ?_
        intro e w2 hN
        obtain ⟨b', rfl, hbb, hTr, hB2⟩ := treeNew_at HKids.out HN2.out hN
        have HF : Hid (TrIn w2 (fun x => P x ∨ w.heap.size ≤ x) (Lm.chgAt f t K) b' ∧ Below w.heap.size w w2) := ⟨TrIn.mono (fun x hx _ => by have := HBR.out.size; rcases hx with hx | hx; exact hx; exact .inr (by omega)) hTr, HBR.out.trans (hB2.mono HBR.out.size)⟩
        clear hN hTr hB2
        go_wp2
        go_ret
        exact ⟨⟨b', rfl, HF.out.1⟩, HF.out.2⟩
      | cons p Bs =>
        obtain ⟨pb, T⟩ := p
        have hil : (j : Int) < (q : Int) := by rw [hqs, ← HJ.out]; simp; omega
        obtain ⟨e1, e2, e3, hOw, hTn, hBr⟩ := HS.out
        have hcj : wr.cell? ⟨gv, j, none⟩ = some (.pointer (some ⟨pb, 0, none⟩)) := by
          rw [World.ownsRow.cellAt hOw j (by omega)]
          unfold ptrsV
          rw [List.getElem?_map, List.getElem?_append_right (by rw [List.length_map, HNL.out, ← HJ.out]; exact Nat.le_refl _), List.length_map, HNL.out, ← HJ.out, Nat.sub_self]
          rfl
        have hTp0 : TrIn w P T pb := HTK.out (pb, T) (by rw [e1]; simp)
        have hTp : TrIn wr (fun x => P x ∧ x < w.heap.size) T pb := TrIn.keep (w := w) hBr.size (fun x _ hx => hBr.block x hx) (fun x h hx => ⟨h, hx⟩) hTp0
        have hp4 := hTp.size
        have hpbl : pb < wr.heap.size := hTp.lt
        have hpw : pb < w.heap.size := hTp0.lt
        have hTm : T ∈ t.kids := by rw [← HKS.out, e1]; simp
        have hTs := Lm.kids_lt hTm
        have hkids : t.kids = As.map Prod.snd ++ T :: Bs.map Prod.snd := by rw [← HKS.out, e1]; simp
        have hwz : IntKind.i64.wrap ((F : Int) + (T.sz : Int)) = (F : Int) + (T.sz : Int) := by rw [IntKind.wrap_i64]; omega
        have hF2 : F + T.sz ≤ 1001 := by
          have hs1 : szL t.kids + 1 ≤ t.sz := by cases t <;> simp [Lm.kids, szL, Lm.sz] <;> omega
          rw [hkids, szL_app] at hs1
          simp only [szL] at hs1
          omega
        have HE3 := hideT' e3
        have HTP := hideT' hTp
        by_cases hin : F ≤ K ∧ K < F + T.sz
        · obtain ⟨hin1, hin2⟩ := hin
          have hi1 : (F : Int) ≤ (K : Int) := by omega
          have hi2 : (K : Int) < (F : Int) + (T.sz : Int) := by omega
          have hwk : IntKind.i64.wrap ((K : Int) - (F : Int)) = ((K - F : Nat) : Int) := by rw [IntKind.wrap_i64]; omega
          have HCALL := hideT' (HIH.out T.sz (by have := HTN.out; omega) T (Nat.le_refl _) s pb (K - F) (fun x => P x ∧ x < w.heap.size) wr hTp (by rw [e3]; exact HSK.out (As.map Prod.snd) T (Bs.map Prod.snd) hkids (by omega) (by omega)) HSUB.out.2.1 (by omega) (Lm.bd_kid HSUB.out.2.2 hTm))
          have hcast : ((K - F : Nat) : Int) = (K : Int) - (F : Int) := by omega
          rw [hcast] at HCALL hwk
          have HSN : Hid (ns.map Prod.snd ++ [Lm.chgAt f T (K - F)] = chgL f K 1 ((As ++ [(pb, T)]).map Prod.snd)) := by
            unfold Hid
            rw [List.map_append, chgL_app, e2]
            simp only [List.map_cons, List.map_nil, chgL]
            rw [← e3, if_pos ⟨hin1, hin2⟩]
          have HOW := hideT' hOw
          have HTNN := hideT' hTn
          have HBR := hideT' hBr
          have HE1 := hideT' e1
          clear e1 e2 e3 hOw hTn hBr hTp hTp0 hkids hTm hcast HS hqs
          go_wp2_with fail
          refine HCALL.out.mono ?_
          rintro e w5 ⟨⟨b', rfl, hT5⟩, hB5⟩
          have hO5 : w5.ownsRow w.heap.size 60 1 (.slice (some ⟨gv, 0, none⟩) q cv) q (ptrsV (ns.map Prod.fst ++ ((pb, T) :: Bs).map Prod.fst)) := own_keep HOW.out (fun gg e => hB5.block gg (HOW.out.lt gg e).2)
          have hp45 : w5.cell? ⟨pb, 4, none⟩ = some (.int .i64 (T.sz : Int)) := by rw [hB5.cell (p := ⟨pb, 4, none⟩) hpbl]; exact hp4
          have hne : pb ≠ gv := by have := HGV.out; omega
          have HT5 := hideT' hT5
          have HB5 := hideT' hB5
          clear hT5 hB5 hp4
          go_wp2_with (refine store_own rfl 60 _ _ rfl rfl gv j (.pointer (some ⟨b', 0, none⟩)) rfl rfl one_ptree rfl hO5 (by omega) ?_; intro w6 hO6 hg6 hs6; have hp46 : w6.cell? ⟨pb, 4, none⟩ = some (.int .i64 (T.sz : Int)) := (by rw [World.cell?_of_block (w := w5) (a := ⟨pb, 4, none⟩) (hg6.block pb (by have := HB5.out.size; omega) (by intro e; injection e with e; exact hne e))]; exact hp45); have HO6 := hideT' hO6; have HG6 := hideT' hg6; clear hO6 hg6)
          have hs5 := HB5.out.size
          have HEND : Hid (ks = (As ++ [(pb, T)]) ++ Bs ∧ (ns ++ [(b', Lm.chgAt f T (K - F))]).map Prod.snd = chgL f K 1 ((As ++ [(pb, T)]).map Prod.snd) ∧ F + T.sz = 1 + szL ((As ++ [(pb, T)]).map Prod.snd) ∧ w6.ownsRow w.heap.size 60 1 (.slice (some ⟨gv, 0, none⟩) q cv) q (ptrsV ((ns ++ [(b', Lm.chgAt f T (K - F))]).map Prod.fst ++ Bs.map Prod.fst)) ∧ (∀ p ∈ ns ++ [(b', Lm.chgAt f T (K - F))], TrIn w6 (fun x => (P x ∧ x < w.heap.size) ∨ (w.heap.size ≤ x ∧ x ≠ gv)) p.2 p.1) ∧ Below w.heap.size w w6) := by
            refine ⟨by rw [HE1.out]; simp, by rw [List.map_append]; exact HSN.out, by rw [HE3.out, List.map_append, szL_app]; simp [szL]; omega, ?_, fun p hp => ?_, ?_⟩
            · have e : (ptrsV (ns.map Prod.fst ++ ((pb, T) :: Bs).map Prod.fst)).set j (.pointer (some ⟨b', 0, none⟩)) = ptrsV ((ns ++ [(b', Lm.chgAt f T (K - F))]).map Prod.fst ++ Bs.map Prod.fst) := by
                unfold ptrsV
                rw [List.map_append, List.set_append_right _ _ (by simp only [List.length_map, HNL.out, ← HJ.out]; exact Nat.le_refl _)]
                simp only [List.length_map, HNL.out, ← HJ.out, Nat.sub_self, List.map_cons, List.set_cons_zero, List.map_append, List.map_nil, List.append_assoc, List.cons_append, List.nil_append]
              rw [← e]; exact HO6.out
            · have hgn : ¬ ((P gv ∧ gv < w.heap.size) ∨ (w.heap.size ≤ gv ∧ gv ≠ gv)) := by have := HGV.out; omega
              rcases List.mem_append.1 hp with hp | hp
              · exact TrIn.grown HG6.out hgn (TrIn.below HB5.out (HTNN.out p hp))
              · rw [List.mem_singleton] at hp
                subst hp
                exact TrIn.grown HG6.out hgn (TrIn.mono (fun x hx _ => by rcases hx with hx | hx; exact .inl hx; exact .inr ⟨by have := HBR.out.size; omega, by omega⟩) HT5.out)
            · exact (HBR.out.trans (HB5.out.mono HBR.out.size)).grown HG6.out (by have := HBR.out.size; omega) (by intro k hk; cases hk; exact HGV.out)
          have hg6l : gv < w6.heap.size := by omega
          go_wp2
          go_roundg Bs.length
          case measure => first | omega | (rw [hgg]; simp)
          case rel => exact ⟨As ++ [(pb, T)], Bs, ns ++ [(b', Lm.chgAt f T (K - F))], F + T.sz, rfl, HEND, by rw [List.length_append, ← HJ.out]; go_num, by go_num, hF2, hg6l⟩
        · have HEND : Hid (ks = (As ++ [(pb, T)]) ++ Bs ∧ (ns ++ [(pb, T)]).map Prod.snd = chgL f K 1 ((As ++ [(pb, T)]).map Prod.snd) ∧ F + T.sz = 1 + szL ((As ++ [(pb, T)]).map Prod.snd) ∧ wr.ownsRow w.heap.size 60 1 (.slice (some ⟨gv, 0, none⟩) q cv) q (ptrsV ((ns ++ [(pb, T)]).map Prod.fst ++ Bs.map Prod.fst)) ∧ (∀ p ∈ ns ++ [(pb, T)], TrIn wr (fun x => (P x ∧ x < w.heap.size) ∨ (w.heap.size ≤ x ∧ x ≠ gv)) p.2 p.1) ∧ Below w.heap.size w wr) := by
            refine ⟨by rw [e1]; simp, ?_, by rw [e3, List.map_append, szL_app]; simp [szL]; omega, ?_, fun p hp => ?_, hBr⟩
            · rw [List.map_append, List.map_append, chgL_app, e2]
              simp only [List.map_cons, List.map_nil, chgL]
              rw [← e3, if_neg hin]
            · have e : (ns ++ [(pb, T)]).map Prod.fst ++ Bs.map Prod.fst = ns.map Prod.fst ++ ((pb, T) :: Bs).map Prod.fst := by simp
              rw [e]; exact hOw
            · rcases List.mem_append.1 hp with hp | hp
              · exact hTn p hp
              · rw [List.mem_singleton] at hp
                subst hp
                exact TrIn.mono (fun x hx _ => .inl hx) HTP.out
          clear e1 e2 e3 hOw hTn hBr hTp hTp0 hkids hTm HS hqs
          by_cases hlo : F ≤ K
          · have hi1 : (F : Int) ≤ (K : Int) := by omega
            have hi2 : ¬ (K : Int) < (F : Int) + (T.sz : Int) := by omega
            go_wp2
            go_roundg Bs.length
            case measure => first | omega | (rw [hgg]; simp)
            case rel => exact ⟨As ++ [(pb, T)], Bs, ns ++ [(pb, T)], F + T.sz, rfl, HEND, by rw [List.length_append, ← HJ.out]; go_num, by go_num, hF2, hgvl⟩
          · have hi1 : ¬ (F : Int) ≤ (K : Int) := by omega
            go_wp2
            go_roundg Bs.length
            case measure => first | omega | (rw [hgg]; simp)
            case rel => exact ⟨As ++ [(pb, T)], Bs, ns ++ [(pb, T)], F + T.sz, rfl, HEND, by rw [List.length_append, ← HJ.out]; go_num, by go_num, hF2, hgvl⟩
theorem changedAt_all (cf : Nat) (pre : Lm → Bool) (f : Lm → Lm) (Z M : Nat) (eg : ∀ args w, (callFunc cf args).run Try.prog w = .ok (.enter cf args) w) (hf : ∀ s, (f s).sz ≤ M + s.sz) (hZ : Z ≤ 1000) (hM : M ≤ 900000) (hch : ChgOk cf pre f Z) : ∀ N, ChgC cf pre f Z N := by
  intro N
  induction N using Nat.strongRecOn with
  | _ N IH => exact changedAt_step cf pre f Z M eg hf hZ hM hch N IH
end Go.Proofs.Ytbnagagdboeedaa

/-
  What substituted of the program makes.
-/
namespace Go.Proofs.Ytbnagagdboeedaa
open Go.RowKit
set_option linter.unusedVariables false

/-- A term put in for a variable. -/
def subV (k : Int) (s : Lm) (n : Int) (m : Nat) : Lm := if n - m < k then .var n else if k < n - m then .var (n - 1) else s.shift m 0
theorem subV_map (k : Int) (s : Lm) : ∀ (t : Lm) (m : Nat), mapV (subV k s) t m = t.sub k s m
  | .var n, m => by
    rw [mapV, subV, Lm.sub]
    by_cases h : n - (m : Int) < k
    · rw [if_pos h, if_pos (show n < k + (m : Int) by omega)]
    · by_cases h2 : k < n - (m : Int)
      · rw [if_neg h, if_pos h2, if_neg (show ¬ n < k + (m : Int) by omega), if_neg (show ¬ n = k + (m : Int) by omega)]
      · rw [if_neg h, if_neg h2, if_neg (show ¬ n < k + (m : Int) by omega), if_pos (show n = k + (m : Int) by omega)]
  | .lam t, m => by rw [mapV, subV_map k s t (m + 1), Lm.sub]
  | .app a b, m => by rw [mapV, subV_map k s a m, subV_map k s b m, Lm.sub]

set_option maxHeartbeats 4000000 in
set_option maxRecDepth 100000 in
theorem subLeaf (w0 : World) (P0 : Nat → Prop) (hP0 : ∀ x, P0 x → x < w0.heap.size) (bk bs bt : Nat) (k : Int) (s : Lm) (hk : -1000000 ≤ k ∧ k ≤ 1000000) (hss : s.sz ≤ 100000) (hsb : s.bd) (hbk : bk < w0.heap.size) (hbs : bs < w0.heap.size) (ck : w0.cell? ⟨bk, 0, none⟩ = some (.int .i64 k)) (cs : w0.cell? ⟨bs, 0, none⟩ = some (.pointer (some ⟨bt, 0, none⟩)))
    (hTs : TrIn w0 P0 s bt) : LeafOk w0 P0 130 #[.pointer (some ⟨bk, 0, none⟩), .pointer (some ⟨bs, 0, none⟩)] (subV k s) := by
  intro n b m w hB hT _ hm hn1 hn2
  have k1 := hT.name
  simp only [Lm.nm] at k1
  have hbl := hT.lt
  have kk : w.cell? ⟨bk, 0, none⟩ = some (.int .i64 k) := by rw [hB.cell (p := ⟨bk, 0, none⟩) hbk]; exact ck
  have ks : w.cell? ⟨bs, 0, none⟩ = some (.pointer (some ⟨bt, 0, none⟩)) := by rw [hB.cell (p := ⟨bs, 0, none⟩) hbs]; exact cs
  have hws := hB.size
  have HT := hideT' hT
  have HTS : Hid (TrIn w P0 s bt) := TrIn.keep (w := w0) hB.size (fun x _ hx => hB.block x hx) (fun _ h _ => h) hTs
  obtain ⟨hk1, hk2⟩ := hk
  have hw1 : IntKind.i64.wrap (n - (m : Int)) = n - (m : Int) := by rw [IntKind.wrap_i64]; omega
  have hw2 : IntKind.i64.wrap (n - 1) = n - 1 := by rw [IntKind.wrap_i64]; omega
  clear hT ck cs hB hTs
  show Calls Try.prog 130 #[.pointer (some ⟨b, 0, none⟩), .int .i64 (m : Int), .pointer (some ⟨bk, 0, none⟩), .pointer (some ⟨bs, 0, none⟩)] w _
  by_cases h : n - (m : Int) < k
  · have HE : Hid (subV k s n m = .var n) := by unfold Hid subV; rw [if_pos h]
    go_enter Try.func130, Try.ntmps130
    go_wp2
    go_ret
    exact ⟨⟨b, rfl, by rw [HE.out]; exact TrIn.mono (fun x hx _ => .inl hx) HT.out⟩, Below.refl _ _⟩
  · by_cases h2 : k < n - (m : Int)
    · have HE : Hid (subV k s n m = .var (n - 1)) := by unfold Hid subV; rw [if_neg h, if_pos h2]
      have HC := hideT' (variable_any (n - 1) w)
      go_enter Try.func130, Try.ntmps130
      go_wp2_with fail
      refine HC.out.mono ?_
      rintro e w2 ⟨⟨b', rfl, hT2⟩, hB2⟩
      have HF := hideT' (And.intro hT2 hB2)
      clear hT2 hB2
      go_wp2
      go_ret
      exact ⟨⟨b', rfl, by rw [HE.out]; exact TrIn.mono (fun x hx _ => .inr hx) HF.out.1⟩, HF.out.2⟩
    · have HE : Hid (subV k s n m = s.shift (m : Int) 0) := by unfold Hid subV; rw [if_neg h, if_neg h2]
      have HC := hideT' (shifted_in s bt (m : Int) 0 P0 w (fun x h => by have := hP0 x h; omega) HTS.out hss hsb ⟨by omega, by omega⟩ ⟨by omega, by omega⟩)
      go_enter Try.func130, Try.ntmps130
      go_wp2_with fail
      refine HC.out.mono ?_
      rintro e w2 ⟨⟨b', rfl, hT2⟩, hB2⟩
      have HF := hideT' (And.intro hT2 hB2)
      clear hT2 hB2
      go_wp2
      go_ret
      exact ⟨⟨b', rfl, by rw [HE.out]; exact HF.out.1⟩, HF.out.2⟩
theorem call_substituted1 : ∀ args w, (callFunc 130 args).run Try.prog w = .ok (.enter 130 args) w := enters_of Try.func130 (by kernel_rfl) rfl
set_option maxHeartbeats 2000000 in
/-- What substituted makes. -/
theorem substituted_in (t : Lm) (b : Nat) (k : Int) (s : Lm) (bt : Nat) (P : Nat → Prop) (w : World) (hT : TrIn w P t b) (hTs : TrIn w P s bt) (hs : t.sz ≤ 1000) (hss : s.sz ≤ 1000) (hbd : t.bd) (hsb : s.bd) (hk : -1000000 ≤ k ∧ k ≤ 1000000) :
    Calls Try.prog 106 #[.pointer (some ⟨b, 0, none⟩), .int .i64 k, .pointer (some ⟨bt, 0, none⟩)] w fun e w' => (∃ b', e = .returned (.pointer (some ⟨b', 0, none⟩)) ∧ TrIn w' (fun x => P x ∨ w.heap.size ≤ x) (t.sub k s 0) b') ∧ Below w.heap.size w w' := by
  obtain ⟨w0, hw0⟩ : ∃ w0, w0 = (w.alloc (.cells #[.int .i64 k] 3)).alloc (.cells #[.pointer (some ⟨bt, 0, none⟩)] 60) := ⟨_, rfl⟩
  have hB0 : Below w.heap.size w w0 := by rw [hw0]; exact ((Below.refl _ _).alloc (Nat.le_refl _) _).alloc (by simp) _
  have hs0 : w0.heap.size = w.heap.size + 2 := by rw [hw0]; simp
  have ck : w0.cell? ⟨w.heap.size, 0, none⟩ = some (.int .i64 k) := by
    rw [hw0, cell_of_row _ _ _ _ _ _ (RowAt.old (RowAt.new w 3 #[.int .i64 k]) _)]; rfl
  have cs : w0.cell? ⟨w.heap.size + 1, 0, none⟩ = some (.pointer (some ⟨bt, 0, none⟩)) := by
    have hr : RowAt w0 (w.heap.size + 1) 60 #[.pointer (some ⟨bt, 0, none⟩)] := by
      rw [hw0]
      have := RowAt.new (w.alloc (.cells #[.int .i64 k] 3)) 60 #[.pointer (some ⟨bt, 0, none⟩)]
      rwa [World.size_alloc] at this
    rw [cell_of_row _ _ _ _ _ _ hr]; rfl
  have hT0 : TrIn w0 (fun x => P x ∧ x < w.heap.size) t b := TrIn.keep (w := w) hB0.size (fun x _ hx => hB0.block x hx) (fun x h hx => ⟨h, hx⟩) hT
  have hTs0 : TrIn w0 (fun x => P x ∧ x < w.heap.size) s bt := TrIn.keep (w := w) hB0.size (fun x _ hx => hB0.block x hx) (fun x h hx => ⟨h, hx⟩) hTs
  have hsh := subV_map k s t 0
  have hbig : (t.sub k s 0).sz ≤ 1000000 := Nat.le_trans (Lm.sub_sz k s t 0).1 (Nat.le_trans (Nat.mul_le_mul hs hss) (by omega))
  have HC := hideT' (replaced_any w0 (fun x => P x ∧ x < w.heap.size) (fun x h => by have := h.2; omega) 130 #[.pointer (some ⟨w.heap.size, 0, none⟩), .pointer (some ⟨w.heap.size + 1, 0, none⟩)] (subV k s) call_substituted1 (subLeaf w0 (fun x => P x ∧ x < w.heap.size) (fun x h => by have := h.2; omega) w.heap.size (w.heap.size + 1) bt k s hk (by omega) hsb (by omega) (by omega) ck cs hTs0) t.sz t (Nat.le_refl _) b 0 w0 (Below.refl _ _) hT0 (by rw [hsh]; exact hbig) (by omega) hbd)
  rw [hsh] at HC
  have HB0 := hideT' hB0
  clear hT hT0 hTs hTs0 ck cs hsh hbd hsb hk hB0 hbig
  go_enter Try.func106, Try.ntmps106
  go_wp2_with fail
  rw [← hw0]
  refine HC.out.mono ?_
  rintro e w2 ⟨⟨b', rfl, hT2⟩, hB2⟩
  have HF : Hid (TrIn w2 (fun x => P x ∨ w.heap.size ≤ x) (t.sub k s 0) b' ∧ Below w.heap.size w w2) := ⟨TrIn.mono (fun x hx _ => by rcases hx with hx | hx; exact .inl hx.1; exact .inr (by omega)) hT2, HB0.out.trans (hB2.mono HB0.out.size)⟩
  clear hT2 hB2
  go_wp2
  go_ret
  exact ⟨⟨b', rfl, HF.out.1⟩, HF.out.2⟩
theorem substituted_any (t : Lm) (b : Nat) (k : Int) (s : Lm) (bt : Nat) (w : World) (hT : TrIn w (fun _ => True) t b) (hTs : TrIn w (fun _ => True) s bt) (hs : t.sz ≤ 1000) (hss : s.sz ≤ 1000) (hbd : t.bd) (hsb : s.bd) (hk : -1000000 ≤ k ∧ k ≤ 1000000) :
    Calls Try.prog 106 #[.pointer (some ⟨b, 0, none⟩), .int .i64 k, .pointer (some ⟨bt, 0, none⟩)] w fun e w' => (∃ b', e = .returned (.pointer (some ⟨b', 0, none⟩)) ∧ TrIn w' (fun _ => True) (t.sub k s 0) b') ∧ Below w.heap.size w w' := by
  refine (substituted_in t b k s bt (fun _ => True) w hT hTs hs hss hbd hsb hk).mono ?_
  rintro e w2 ⟨⟨b', rfl, hT2⟩, hB2⟩
  exact ⟨⟨b', rfl, TrIn.mono (fun _ _ _ => trivial) hT2⟩, hB2⟩
end Go.Proofs.Ytbnagagdboeedaa
