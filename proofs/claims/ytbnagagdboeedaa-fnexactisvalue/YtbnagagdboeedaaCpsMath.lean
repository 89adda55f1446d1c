/-
  Steps by value and by name, what is around a part, and Plotkin's translation (plain).
-/
import Derived.Test.YtbnagagdboeedaaFreeMath
namespace Go.Proofs.Ytbnagagdboeedaa
set_option linter.unusedVariables false

/-- One step, by value or by name. -/
def Lm.stp (v : Bool) : Lm → Option Lm
  | .var _ => none
  | .lam _ => none
  | .app f x => match f.stp v with
    | some f' => some (.app f' x)
    | none => match (if v then x.stp v else none) with
      | some x' => some (.app f x')
      | none => some (Lm.app f x).beta
theorem arg_stp {v : Bool} {x x' : Lm} (h : (if v then x.stp v else none) = some x') : x.stp v = some x' := by
  cases v with
  | false => cases h
  | true => exact h
theorem Lm.stp_none {v : Bool} : ∀ {t : Lm}, t.cl 0 = true → t.stp v = none → t.isLam = true
  | .var n, h, _ => by simp [Lm.cl] at h; omega
  | .lam t, _, _ => rfl
  | .app f x, _, h => by
    rw [Lm.stp] at h
    split at h
    · cases h
    · split at h <;> cases h
theorem Lm.stp_lam {v : Bool} {t : Lm} (h : t.isLam = true) : t.stp v = none := by
  cases t with
  | lam t => rfl
  | var n => cases h
  | app a b => cases h
theorem Lm.beta_cl {b a : Lm} (hb : b.cl 1 = true) (ha : a.cl 0 = true) : (Lm.app (.lam b) a).beta.cl 0 = true := by
  rw [Lm.beta]; exact Lm.cl_sub ha hb
theorem Lm.stp_cl {v : Bool} : ∀ {t s : Lm}, t.cl 0 = true → t.stp v = some s → s.cl 0 = true
  | .var n, s, h, e => by rw [Lm.stp] at e; cases e
  | .lam t, s, h, e => by rw [Lm.stp] at e; cases e
  | .app f x, s, h, e => by
    simp only [Lm.cl, Bool.and_eq_true] at h
    rw [Lm.stp] at e
    split at e
    · next f' hf =>
      injection e with e
      subst e
      simp only [Lm.cl, Bool.and_eq_true]
      exact ⟨Lm.stp_cl h.1 hf, h.2⟩
    · next hf =>
      have hl := Lm.stp_none h.1 hf
      cases f with
      | var n => cases hl
      | app a b => cases hl
      | lam b =>
        split at e
        · next x' hx =>
          injection e with e
          subst e
          simp only [Lm.cl, Bool.and_eq_true]
          exact ⟨h.1, Lm.stp_cl h.2 (arg_stp hx)⟩
        · injection e with e
          subst e
          exact Lm.beta_cl h.1 h.2
theorem Lm.stp_sz {v : Bool} : ∀ {t s : Lm}, t.stp v = some s → s.sz ≤ t.sz * t.sz
  | .var n, s, e => by rw [Lm.stp] at e; cases e
  | .lam t, s, e => by rw [Lm.stp] at e; cases e
  | .app f x, s, e => by
    have hq : (f.sz + x.sz + 1) * (f.sz + x.sz + 1) = f.sz * f.sz + x.sz * x.sz + 2 * (f.sz * x.sz) + 2 * f.sz + 2 * x.sz + 1 := by grind
    rw [Lm.stp] at e
    split at e
    · next f' hf =>
      injection e with e
      subst e
      have := Lm.stp_sz hf
      simp only [Lm.sz]
      rw [hq]; omega
    · split at e
      · next x' hx =>
        injection e with e
        subst e
        have := Lm.stp_sz (arg_stp hx)
        simp only [Lm.sz]
        rw [hq]; omega
      · injection e with e
        subst e
        simp only [Lm.sz]
        rw [hq]
        unfold Lm.beta
        split
        · next b a heq =>
          injection heq with h1 h2
          subst h1 h2
          have := (Lm.sub_sz 0 x b 0).1
          simp only [Lm.sz]
          have h3 : b.sz * x.sz ≤ (b.sz + 1) * x.sz := Nat.mul_le_mul (by omega) (Nat.le_refl _)
          omega
        · simp only [Lm.sz]; omega
/-- Steps till a lambda, k more at most, n done: what it comes to and how many they were. -/
def runT (v : Bool) : Nat → Nat → Lm → Option (Lm × Nat)
  | 0, n, t => match t.stp v with
    | none => some (t, n)
    | some _ => none
  | k + 1, n, t => match t.stp v with
    | none => some (t, n)
    | some t' => if t'.good then runT v k (n + 1) t' else none
theorem runT_end {v : Bool} {k n : Nat} {t : Lm} (h : t.stp v = none) : runT v k n t = some (t, n) := by cases k <;> simp [runT, h]
theorem runT_zero {v : Bool} {n : Nat} {t s : Lm} (h : t.stp v = some s) : runT v 0 n t = none := by simp [runT, h]
theorem runT_bad {v : Bool} {k n : Nat} {t s : Lm} (h : t.stp v = some s) (hg : s.good = false) : runT v k n t = none := by cases k <;> simp [runT, h, hg]
theorem runT_step {v : Bool} {k n : Nat} {t s : Lm} (h : t.stp v = some s) (hg : s.good = true) : runT v (k + 1) n t = runT v k (n + 1) s := by simp [runT, h, hg]
theorem runT_good {v : Bool} : ∀ {k n : Nat} {t s : Lm} {m : Nat}, t.good = true → t.cl 0 = true → runT v k n t = some (s, m) → s.good = true ∧ s.isLam = true ∧ s.cl 0 = true ∧ n ≤ m ∧ m ≤ n + k
  | 0, n, t, s, m, hg, hc, h => by
    cases hs : t.stp v with
    | none =>
      rw [runT_end hs] at h
      injection h with h
      injection h with h1 h2
      subst h1 h2
      exact ⟨hg, Lm.stp_none hc hs, hc, Nat.le_refl _, Nat.le_refl _⟩
    | some t' => rw [runT_zero hs] at h; cases h
  | k + 1, n, t, s, m, hg, hc, h => by
    cases hs : t.stp v with
    | none =>
      rw [runT_end hs] at h
      injection h with h
      injection h with h1 h2
      subst h1 h2
      exact ⟨hg, Lm.stp_none hc hs, hc, Nat.le_refl _, by omega⟩
    | some t' =>
      cases hg' : t'.good with
      | false => rw [runT_bad hs hg'] at h; cases h
      | true =>
        rw [runT_step hs hg'] at h
        have := runT_good hg' (Lm.stp_cl hc hs) h
        exact ⟨this.1, this.2.1, this.2.2.1, by omega, by omega⟩

/-! What is around a part: the second part of an application whose first part it is, or the first part of one whose second part it is. -/
inductive Fr where
  | fst (x : Lm)
  | snd (f : Lm)
def Fr.plug : Fr → Lm → Lm
  | .fst x, t => .app t x
  | .snd f, t => .app f t
/-- The whole term, the innermost one first. -/
def wholeS : List Fr → Lm → Lm
  | [], t => t
  | fr :: s, t => wholeS s (fr.plug t)
def Fr.fits (v : Bool) : Fr → Bool
  | .fst _ => true
  | .snd f => v && f.isLam
def stkOk (v : Bool) (s : List Fr) : Bool := s.all (Fr.fits v)
theorem stp_whole {v : Bool} : ∀ {s : List Fr} {t t' : Lm}, stkOk v s = true → t.stp v = some t' → (wholeS s t).stp v = some (wholeS s t')
  | [], t, t', _, h => h
  | fr :: s, t, t', hs, h => by
    have hs := Bool.and_eq_true_iff.1 (show (fr.fits v && stkOk v s) = true from hs)
    refine stp_whole (s := s) hs.2 ?_
    cases fr with
    | fst x => simp [Fr.plug, Lm.stp, h]
    | snd f =>
      have h1 := Bool.and_eq_true_iff.1 (show (v && f.isLam) = true from hs.1)
      have h2 := h1.1
      subst h2
      simp [Fr.plug, Lm.stp, h, Lm.stp_lam (v := true) h1.2]
theorem stp_red {v : Bool} {b a : Lm} (h : v = true → a.isLam = true) : (Lm.app (.lam b) a).stp v = some (Lm.app (.lam b) a).beta := by
  cases v with
  | false => simp [Lm.stp]
  | true => simp [Lm.stp, Lm.stp_lam (v := true) (h rfl)]
theorem whole_cl : ∀ {s : List Fr} {t : Lm}, (wholeS s t).cl 0 = true → t.cl 0 = true
  | [], t, h => h
  | .fst x :: s, t, h => by
    have := whole_cl (s := s) h
    simp only [Fr.plug, Lm.cl, Bool.and_eq_true] at this
    exact this.1
  | .snd f :: s, t, h => by
    have := whole_cl (s := s) h
    simp only [Fr.plug, Lm.cl, Bool.and_eq_true] at this
    exact this.2
theorem whole_sz : ∀ (s : List Fr) (t : Lm), t.sz + 2 * s.length ≤ (wholeS s t).sz
  | [], t => Nat.le_refl _
  | .fst x :: s, t => by
    have := whole_sz s (Fr.plug (.fst x) t)
    have := x.sz_pos
    simp only [Fr.plug, Lm.sz, wholeS, List.length_cons] at *; omega
  | .snd f :: s, t => by
    have := whole_sz s (Fr.plug (.snd f) t)
    have := f.sz_pos
    simp only [Fr.plug, Lm.sz, wholeS, List.length_cons] at *; omega
theorem whole_plug : ∀ (s : List Fr) (t : Lm), ∃ K, ∀ u : Lm, (wholeS s u).sz = u.sz + K
  | [], t => ⟨0, fun u => rfl⟩
  | .fst x :: s, t => by
    obtain ⟨K, h⟩ := whole_plug s t
    exact ⟨x.sz + 1 + K, fun u => by rw [wholeS, h]; simp only [Fr.plug, Lm.sz]; omega⟩
  | .snd f :: s, t => by
    obtain ⟨K, h⟩ := whole_plug s t
    exact ⟨f.sz + 1 + K, fun u => by rw [wholeS, h]; simp only [Fr.plug, Lm.sz]; omega⟩
/-- How much is left to be looked at, till the next redex. -/
def Fr.mu : Fr → Nat
  | .fst x => 2 * x.sz + 1
  | .snd _ => 0
def muS (s : List Fr) : Nat := s.foldr (fun fr a => fr.mu + a) 0

/-! Plotkin's translation. -/
def lastT : Lm := .lam (.app (.app (.var 1) (.var 0)) (.var 2))
def Lm.pass : Lm → Lm
  | .var n => .lam (.app (.var 0) (.var (n + 1)))
  | .lam t => .lam (.app (.var 0) ((Lm.lam t.pass).shift 1 0))
  | .app s t => .lam (.app (s.pass.shift 1 0) (.lam (.app (t.pass.shift 2 0) lastT)))
theorem Lm.pass_sz : ∀ t : Lm, t.pass.sz ≤ 12 * t.sz
  | .var n => by simp [Lm.pass, Lm.sz]
  | .lam t => by
    have := Lm.pass_sz t
    simp only [Lm.pass, Lm.sz, (Lm.shift_sz 1 (Lm.lam t.pass) 0).1]; omega
  | .app s t => by
    have := Lm.pass_sz s
    have := Lm.pass_sz t
    simp only [Lm.pass, lastT, Lm.sz, (Lm.shift_sz 1 s.pass 0).1, (Lm.shift_sz 2 t.pass 0).1]; omega
/-- Variables between -1000 and a bound. -/
def Lm.lim (t : Lm) (B : Nat) : Prop := match t with
  | .var n => -1000 ≤ n ∧ n ≤ B
  | .lam t => t.lim B
  | .app s t => s.lim B ∧ t.lim B
theorem Lm.lim_up : ∀ {t : Lm} {B C : Nat}, t.lim B → B ≤ C → t.lim C
  | .var n, B, C, h, hb => ⟨h.1, by have := h.2; omega⟩
  | .lam t, B, C, h, hb => Lm.lim_up (t := t) h hb
  | .app s t, B, C, h, hb => ⟨Lm.lim_up h.1 hb, Lm.lim_up h.2 hb⟩
theorem Lm.lim_shift (d : Nat) : ∀ {t : Lm} {B : Nat} {f : Int}, t.lim B → (t.shift d f).lim (B + d)
  | .var n, B, f, h => by
    have h1 := h.1
    have h2 := h.2
    rw [Lm.shift]
    split
    · exact ⟨h1, by omega⟩
    · exact ⟨by omega, by omega⟩
  | .lam t, B, f, h => Lm.lim_shift d (t := t) h
  | .app s t, B, f, h => ⟨Lm.lim_shift d h.1, Lm.lim_shift d h.2⟩
theorem Lm.lim_pass : ∀ {t : Lm}, t.lim 100 → t.pass.lim (100 + 2 * t.sz)
  | .var n, h => by
    have h1 := h.1
    have h2 := h.2
    exact ⟨⟨by omega, by omega⟩, ⟨by omega, by simp [Lm.sz]; omega⟩⟩
  | .lam t, h => by
    have h1 := Lm.lim_shift 1 (t := Lm.lam t.pass) (B := 100 + 2 * t.sz) (f := 0) (Lm.lim_pass (t := t) h)
    exact ⟨⟨by omega, by omega⟩, Lm.lim_up h1 (by simp only [Lm.sz]; omega)⟩
  | .app s t, h => by
    have h1 := Lm.lim_shift 1 (f := 0) (Lm.lim_pass (t := s) h.1)
    have h2 := Lm.lim_shift 2 (f := 0) (Lm.lim_pass (t := t) h.2)
    refine ⟨Lm.lim_up h1 (by simp only [Lm.sz]; omega), Lm.lim_up h2 (by simp only [Lm.sz]; omega), ⟨⟨by omega, by omega⟩, ⟨by omega, by omega⟩⟩, ⟨by omega, by omega⟩⟩
theorem Lm.ok_lim : ∀ {t : Lm}, t.ok = true → t.lim 100
  | .var n, h => by simp [Lm.ok] at h; exact ⟨by omega, by omega⟩
  | .lam t, h => Lm.ok_lim (t := t) h
  | .app s t, h => by simp only [Lm.ok, Bool.and_eq_true] at h; exact ⟨Lm.ok_lim h.1, Lm.ok_lim h.2⟩
/-- What the value of a lambda is, passed. -/
def Lm.passV : Lm → Lm
  | .lam t => .lam t.pass
  | t => t
end Go.Proofs.Ytbnagagdboeedaa
