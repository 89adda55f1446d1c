/-
  Free variables, each once and rising; terms without free variables (plain).
-/
import Derived.Test.YtbnagagdboeedaaTermOps
import Derived.Test.YtbnagagdboeedaaSpecParts
import Derived.Lib.SlicesCompact
namespace Go.Proofs.Ytbnagagdboeedaa
set_option linter.unusedVariables false

/-- Two rising lists with the same members are the same. -/
theorem rising_ext : ∀ {a b : List Int}, a.Pairwise (· < ·) → b.Pairwise (· < ·) → (∀ x, x ∈ a ↔ x ∈ b) → a = b
  | [], [], _, _, _ => rfl
  | [], y :: b, _, _, h => by have := (h y).2 (by simp); cases this
  | x :: a, [], _, _, h => by have := (h x).1 (by simp); cases this
  | x :: a, y :: b, ha, hb, h => by
    have ha' := List.pairwise_cons.1 ha
    have hb' := List.pairwise_cons.1 hb
    have hxy : x = y := by
      rcases List.mem_cons.1 ((h x).1 (by simp)) with e | e
      · exact e
      · rcases List.mem_cons.1 ((h y).2 (by simp)) with e2 | e2
        · exact e2.symm
        · have := hb'.1 x e; have := ha'.1 y e2; omega
    subst hxy
    rw [rising_ext ha'.2 hb'.2 (fun z => ?_)]
    constructor
    · intro hz
      have h1 := ha'.1 z hz
      rcases List.mem_cons.1 ((h z).1 (List.mem_cons_of_mem _ hz)) with e | e
      · omega
      · exact e
    · intro hz
      have h1 := hb'.1 z hz
      rcases List.mem_cons.1 ((h z).2 (List.mem_cons_of_mem _ hz)) with e | e
      · omega
      · exact e
theorem arr_get (l : List Int) (i : Nat) (h : i < l.length) : l.toArray[i]! = l[i] := by simp [getElem!_pos, h]
theorem compact_rising (l : List Int) (hs : l.Pairwise (· ≤ ·)) : (Go.Lib.compact l).Pairwise (· < ·) := by
  unfold Go.Lib.compact Go.Lib.compactUpTo
  rw [List.pairwise_map, List.pairwise_filter]
  refine List.Pairwise.imp_of_mem ?_ List.pairwise_lt_range
  intro i j hi hj hij _ hk
  rw [List.mem_range] at hi hj
  have hsi := List.pairwise_iff_getElem.1 hs
  simp only [Go.Lib.keeps, decide_eq_true_eq] at hk
  rw [arr_get l i hi, arr_get l j hj]
  rcases hk with hk | hk
  · omega
  · rw [arr_get l j hj, arr_get l (j - 1) (by omega)] at hk
    have h1 := hsi (j - 1) j (by omega) hj (by omega)
    by_cases h2 : i = j - 1
    · subst h2; omega
    · have h3 := hsi i (j - 1) hi (by omega) (by omega)
      omega
theorem compact_mem (l : List Int) (x : Int) : x ∈ Go.Lib.compact l ↔ x ∈ l := by
  unfold Go.Lib.compact Go.Lib.compactUpTo
  rw [List.mem_map]
  constructor
  · rintro ⟨i, hi, rfl⟩
    have hi := List.mem_range.1 (List.mem_filter.1 hi).1
    rw [arr_get l i hi]
    exact List.getElem_mem _
  · intro hx
    obtain ⟨i, hi, rfl⟩ := List.getElem_of_mem hx
    induction i with
    | zero => exact ⟨0, List.mem_filter.2 ⟨List.mem_range.2 (by simpa using hi), by simp [Go.Lib.keeps]⟩, arr_get l 0 hi⟩
    | succ i ih =>
      by_cases h : l[i + 1] = l[i]
      · rw [h]
        exact ih (by omega) (List.getElem_mem _)
      · refine ⟨i + 1, List.mem_filter.2 ⟨List.mem_range.2 (by simpa using hi), ?_⟩, arr_get l _ hi⟩
        simp only [Go.Lib.keeps, decide_eq_true_eq, Nat.add_sub_cancel]
        right
        rw [arr_get l (i + 1) hi, arr_get l i (by omega)]
        exact h
/-- The free variables, each once, rising. -/
def FrN (t : Lm) : List Nat := (List.range 100).filter fun i => (t.free 0).contains (i : Int)
def FrL (t : Lm) : List Int := natsI (FrN t)
theorem FrL_len (t : Lm) : (FrL t).length ≤ 100 := by
  unfold FrL natsI FrN
  rw [List.length_map]
  exact Nat.le_trans (List.length_filter_le _ _) (by simp)
theorem FrL_mem {t : Lm} (h : t.ok = true) (x : Int) : x ∈ FrL t ↔ x ∈ t.free 0 := by
  unfold FrL natsI FrN
  rw [List.mem_map]
  constructor
  · rintro ⟨i, hi, rfl⟩
    have := (List.mem_filter.1 hi).2
    simpa using this
  · intro hx
    have hr := Lm.free_range t 0 h (Int.le_refl _) x hx
    refine ⟨x.toNat, List.mem_filter.2 ⟨List.mem_range.2 (by omega), ?_⟩, by omega⟩
    rw [Int.toNat_of_nonneg hr.1]
    simpa using hx
theorem FrL_rising (t : Lm) : (FrL t).Pairwise (· < ·) := by
  unfold FrL natsI FrN
  rw [List.pairwise_map]
  refine List.Pairwise.imp ?_ (List.Pairwise.filter _ List.pairwise_lt_range)
  intro a b h; omega
theorem sort_sorted (l : List Int) : (l.mergeSort fun x y => decide (x ≤ y)).Pairwise (· ≤ ·) := by
  have := List.pairwise_mergeSort (le := fun x y : Int => decide (x ≤ y)) (fun a b c h1 h2 => by simp at *; omega) (fun a b => by simp; omega) l
  exact this.imp (fun h => by simpa using h)
theorem FrL_compact {t : Lm} (h : t.ok = true) : Go.Lib.compact ((t.free 0).mergeSort fun x y => decide (x ≤ y)) = FrL t := by
  refine rising_ext (compact_rising _ (sort_sorted _)) (FrL_rising t) (fun x => ?_)
  rw [compact_mem, List.mem_mergeSort, FrL_mem h]
theorem FrL_nil {t : Lm} (h : t.ok = true) : FrL t = [] ↔ t.free 0 = [] := by
  constructor
  · intro e
    refine List.eq_nil_iff_forall_not_mem.2 fun x hx => ?_
    rw [← FrL_mem h, e] at hx; cases hx
  · intro e
    refine List.eq_nil_iff_forall_not_mem.2 fun x hx => ?_
    rw [FrL_mem h, e] at hx; cases hx
theorem Lm.free_len : ∀ (t : Lm) (m : Int), (t.free m).length ≤ t.sz
  | .var n, m => by rw [Lm.free]; split <;> simp [Lm.sz]
  | .lam t, m => by have := Lm.free_len t (m + 1); simp only [Lm.free, Lm.sz]; omega
  | .app s t, m => by have := Lm.free_len s m; have := Lm.free_len t m; simp only [Lm.free, Lm.sz, List.length_append]; omega

/-! Terms whose variables are all bound, m lambdas around. -/
def Lm.cl : Lm → Nat → Bool
  | .var n, m => decide (0 ≤ n) && decide (n < m)
  | .lam t, m => t.cl (m + 1)
  | .app s t, m => s.cl m && t.cl m
theorem Lm.cl_of : ∀ {t : Lm} {m : Nat}, t.ok = true → t.free m = [] → t.cl m = true
  | .var n, m, h, hf => by
    simp [Lm.ok] at h
    rw [Lm.free] at hf
    split at hf
    · cases hf
    · simp [Lm.cl]; omega
  | .lam t, m, h, hf => Lm.cl_of (t := t) (m := m + 1) h (by rw [Lm.free] at hf; exact_mod_cast hf)
  | .app s t, m, h, hf => by
    simp only [Lm.ok, Bool.and_eq_true] at h
    rw [Lm.free] at hf
    have := List.append_eq_nil_iff.1 hf
    simp only [Lm.cl, Bool.and_eq_true]
    exact ⟨Lm.cl_of h.1 this.1, Lm.cl_of h.2 this.2⟩
theorem Lm.cl_up : ∀ {t : Lm} {m k : Nat}, t.cl m = true → m ≤ k → t.cl k = true
  | .var n, m, k, h, hk => by simp [Lm.cl] at *; omega
  | .lam t, m, k, h, hk => Lm.cl_up (t := t) h (by omega)
  | .app s t, m, k, h, hk => by
    simp only [Lm.cl, Bool.and_eq_true] at *
    exact ⟨Lm.cl_up h.1 hk, Lm.cl_up h.2 hk⟩
theorem Lm.cl_shift (d : Int) : ∀ {t : Lm} {m : Nat} {f : Int}, t.cl m = true → (m : Int) ≤ f → t.shift d f = t
  | .var n, m, f, h, hf => by simp [Lm.cl] at h; rw [Lm.shift, if_pos (by omega)]
  | .lam t, m, f, h, hf => by rw [Lm.shift, Lm.cl_shift d (t := t) (m := m + 1) h (by omega)]
  | .app s t, m, f, h, hf => by
    simp only [Lm.cl, Bool.and_eq_true] at h
    rw [Lm.shift, Lm.cl_shift d h.1 hf, Lm.cl_shift d h.2 hf]
theorem Lm.cl_sub {a : Lm} (ha : a.cl 0 = true) : ∀ {t : Lm} {m : Nat}, t.cl (m + 1) = true → (t.sub 0 a m).cl m = true
  | .var n, m, h => by
    simp [Lm.cl] at h
    rw [Lm.sub]
    split
    · simp [Lm.cl]; omega
    · rw [if_pos (by omega), Lm.cl_shift m ha (Int.le_refl 0)]
      exact Lm.cl_up ha (by omega)
  | .lam t, m, h => by rw [Lm.sub]; exact Lm.cl_sub ha (t := t) (m := m + 1) h
  | .app s t, m, h => by
    simp only [Lm.cl, Bool.and_eq_true] at h
    rw [Lm.sub]
    simp only [Lm.cl, Bool.and_eq_true]
    exact ⟨Lm.cl_sub ha h.1, Lm.cl_sub ha h.2⟩
/-- The term of a row, where it is good and has no free variables. -/
def clR (l : List Nd) : Option Lm := match readP' l with | none => none | some t => if t.free 0 = [] then some t else none
theorem clR_some {l : List Nd} {t : Lm} (h : clR l = some t) : readP' l = some t ∧ t.free 0 = [] ∧ t.cl 0 = true := by
  unfold clR at h
  cases h1 : readP' l with
  | none => rw [h1] at h; cases h
  | some s =>
    rw [h1] at h
    simp only at h
    split at h
    · next h2 =>
      injection h with h
      subst h
      have hok := (Lm.good_sz ((readP'_iff l s).1 h1).2).2.2
      exact ⟨rfl, h2, Lm.cl_of hok h2⟩
    · cases h
theorem clR_none {l : List Nd} (h : readP' l = none) : clR l = none := by unfold clR; rw [h]
theorem clR_no {l : List Nd} {t : Lm} (h : readP' l = some t) (h2 : t.free 0 ≠ []) : clR l = none := by unfold clR; rw [h]; exact if_neg h2
theorem clR_ok {l : List Nd} {t : Lm} (h : readP' l = some t) (h2 : t.free 0 = []) : clR l = some t := by unfold clR; rw [h]; exact if_pos h2
end Go.Proofs.Ytbnagagdboeedaa
