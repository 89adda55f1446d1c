/-
  What is done to terms: texts, free variables, shifting, putting in, redexes, reducing (plain).
-/
import Derived.Test.YtgolfbjfopoeeaaDoorTermMath
namespace Go.Proofs.YtgolfbjfopoeeaaDoor
set_option linter.unusedVariables false

/-- A place that a walk comes by: its number, that of the node around it, how many lambdas are around, and what stands there. -/
structure Spot where
  at_ : Nat
  up : Int
  lam : Nat
  t : Lm
def Lm.walk : Lm → Nat → Int → Nat → List Spot
  | .var n, a, u, m => [⟨a, u, m, .var n⟩]
  | .lam t, a, u, m => ⟨a, u, m, .lam t⟩ :: t.walk (a + 1) a (m + 1)
  | .app s t, a, u, m => ⟨a, u, m, .app s t⟩ :: (s.walk (a + 1) a m ++ t.walk (a + 1 + s.sz) a m)
def Spot.nd (x : Spot) : Nd := ⟨x.t.kd, x.t.nm, x.up⟩
theorem Lm.walk_flat : ∀ (t : Lm) (a : Nat) (u : Int) (m : Nat), (t.walk a u m).map Spot.nd = t.flat a u
  | .var n, a, u, m => rfl
  | .lam t, a, u, m => by rw [Lm.walk, List.map_cons, Lm.walk_flat t, Lm.flat]; rfl
  | .app s t, a, u, m => by rw [Lm.walk, List.map_cons, List.map_append, Lm.walk_flat s, Lm.walk_flat t, Lm.flat]; rfl
theorem Lm.walk_len (t : Lm) (a : Nat) (u : Int) (m : Nat) : (t.walk a u m).length = t.sz := by
  have := congrArg List.length (t.walk_flat a u m)
  rwa [List.length_map, Lm.flat_sz] at this
/-- The parts' sizes and depths are no more than the whole one's. -/
theorem Lm.walk_sub : ∀ (t : Lm) (a : Nat) (u : Int) (m : Nat) (x : Spot), x ∈ t.walk a u m → x.t.sz ≤ t.sz ∧ x.t.dp ≤ t.dp ∧ a ≤ x.at_ ∧ x.at_ < a + t.sz ∧ x.lam + x.t.dp ≤ m + t.dp
  | .var n, a, u, m, x, h => by
    simp only [Lm.walk, List.mem_singleton] at h
    subst h
    simp only [Lm.sz, Lm.dp]; omega
  | .lam t, a, u, m, x, h => by
    rw [Lm.walk] at h
    rcases List.mem_cons.1 h with rfl | h
    · simp only [Lm.sz, Lm.dp]; omega
    · have := Lm.walk_sub t _ _ _ x h
      simp only [Lm.sz, Lm.dp]; omega
  | .app s t, a, u, m, x, h => by
    rw [Lm.walk] at h
    rcases List.mem_cons.1 h with rfl | h
    · simp only [Lm.sz, Lm.dp]; omega
    · rcases List.mem_append.1 h with h | h
      · have := Lm.walk_sub s _ _ _ x h
        simp only [Lm.sz, Lm.dp]; omega
      · have := Lm.walk_sub t _ _ _ x h
        simp only [Lm.sz, Lm.dp]; omega
theorem Lm.walk_ok : ∀ (t : Lm) (a : Nat) (u : Int) (m : Nat), t.ok = (t.walk a u m).all fun x => match x.t with | .var n => decide (0 ≤ n) && decide (n ≤ 99) | _ => true
  | .var n, a, u, m => by simp [Lm.walk, Lm.ok]
  | .lam t, a, u, m => by rw [Lm.walk, List.all_cons, ← Lm.walk_ok t]; simp [Lm.ok]
  | .app s t, a, u, m => by rw [Lm.walk, List.all_cons, List.all_append, ← Lm.walk_ok s, ← Lm.walk_ok t]; simp [Lm.ok]

/-! Redexes. -/
def Lm.isLam : Lm → Bool
  | .lam _ => true
  | _ => false
def Lm.isRed : Lm → Bool
  | .app s _ => s.isLam
  | _ => false
def Lm.reds (t : Lm) : List Nat := ((t.walk 0 (-1) 0).filter fun x => x.t.isRed).map Spot.at_
/-- As the model looks for them, in the nodes. -/
def redN (l : List Nd) (k : Nat) : Bool := decide ((ndAt l k).k = 3) && decide ((ndAt l (k + 1)).k = 2)
def redsN (l : List Nd) : List Nat := (List.range l.length).filter (redN l)
theorem Lm.kd_lam (t : Lm) : decide (t.kd = 2) = t.isLam := by cases t <;> simp [Lm.kd, Lm.isLam]
theorem Seg.red {l : List Nd} : ∀ {t : Lm} {a : Nat} {up : Int}, Seg l t a up → ∀ m, ∀ x ∈ t.walk a up m, redN l x.at_ = x.t.isRed
  | .var n, a, up, h, m, x, hx => by
    simp only [Lm.walk, List.mem_singleton] at hx
    subst hx
    simp [redN, h.nd, Lm.kd, Lm.isRed]
  | .lam t, a, up, h, m, x, hx => by
    rw [Lm.walk] at hx
    rcases List.mem_cons.1 hx with rfl | hx
    · simp [redN, h.nd, Lm.kd, Lm.isRed]
    · exact Seg.red h.2 _ x hx
  | .app s t, a, up, h, m, x, hx => by
    rw [Lm.walk] at hx
    rcases List.mem_cons.1 hx with rfl | hx
    · simp only [redN, h.nd, Lm.kd, Lm.isRed]
      rw [Seg.nd h.2.1]
      simp [Lm.kd_lam]
    · rcases List.mem_append.1 hx with hx | hx
      · exact Seg.red h.2.1 _ x hx
      · exact Seg.red h.2.2 _ x hx
theorem Lm.walk_ats : ∀ (t : Lm) (a : Nat) (u : Int) (m : Nat), (t.walk a u m).map Spot.at_ = List.range' a t.sz
  | .var n, a, u, m => rfl
  | .lam t, a, u, m => by rw [Lm.walk, List.map_cons, Lm.walk_ats t, Lm.sz, List.range'_succ]
  | .app s t, a, u, m => by
    rw [Lm.walk, List.map_cons, List.map_append, Lm.walk_ats s, Lm.walk_ats t, Lm.sz, List.range'_succ]
    congr 1
    rw [← List.range'_append (s := a + 1) (m := s.sz) (n := t.sz) (step := 1)]
    simp
theorem filter_map_at {l : List Spot} {p : Nat → Bool} {q : Spot → Bool} (h : ∀ x ∈ l, p x.at_ = q x) : (l.map Spot.at_).filter p = (l.filter q).map Spot.at_ := by
  induction l with
  | nil => rfl
  | cons x l ih =>
    rw [List.map_cons, List.filter_cons, List.filter_cons, h x (List.mem_cons_self ..), ih fun y hy => h y (List.mem_cons_of_mem _ hy)]
    split <;> rfl
theorem redsN_flat (t : Lm) : redsN (t.flat 0 (-1)) = t.reds := by
  unfold redsN Lm.reds
  rw [Lm.flat_sz, List.range_eq_range', ← Lm.walk_ats t 0 (-1) 0]
  exact filter_map_at (fun x hx => Seg.red (Seg.whole t) 0 x hx)

/-! Shifting and putting in. -/
def Lm.shift (d : Int) : Lm → Int → Lm
  | .var n, f => if n < f then .var n else .var (n + d)
  | .lam t, f => .lam (t.shift d (f + 1))
  | .app s t, f => .app (s.shift d f) (t.shift d f)
def Lm.shiftOk (d : Int) : Lm → Int → Bool
  | .var n, f => decide (n < f) || decide (f ≤ n + d)
  | .lam t, f => t.shiftOk d (f + 1)
  | .app s t, f => s.shiftOk d f && t.shiftOk d f
def Lm.sub (t : Lm) (k : Int) (s : Lm) (m : Nat) : Lm := match t with
  | .var n => if n < k + m then .var n else if n = k + m then s.shift m 0 else .var (n - 1)
  | .lam t => .lam (t.sub k s (m + 1))
  | .app a b => .app (a.sub k s m) (b.sub k s m)
theorem Lm.shift_sz (d : Int) : ∀ (t : Lm) (f : Int), (t.shift d f).sz = t.sz ∧ (t.shift d f).dp = t.dp
  | .var n, f => by rw [Lm.shift]; split <;> simp [Lm.sz, Lm.dp]
  | .lam t, f => by rw [Lm.shift, Lm.sz, Lm.dp, (Lm.shift_sz d t _).1, (Lm.shift_sz d t _).2]; exact ⟨rfl, rfl⟩
  | .app s t, f => by rw [Lm.shift, Lm.sz, Lm.dp, (Lm.shift_sz d s _).1, (Lm.shift_sz d s _).2, (Lm.shift_sz d t _).1, (Lm.shift_sz d t _).2]; exact ⟨rfl, rfl⟩
theorem Lm.sub_sz (k : Int) (s : Lm) : ∀ (t : Lm) (m : Nat), (t.sub k s m).sz ≤ t.sz * s.sz ∧ (t.sub k s m).dp ≤ t.dp + s.dp
  | .var n, m => by
    have := s.sz_pos
    have := s.dp_pos
    rw [Lm.sub]
    split
    · simp only [Lm.sz, Lm.dp]; omega
    · split
      · rw [(Lm.shift_sz _ s _).1, (Lm.shift_sz _ s _).2]; simp only [Lm.sz, Lm.dp]; omega
      · simp only [Lm.sz, Lm.dp]; omega
  | .lam t, m => by
    have := s.sz_pos
    have h := Lm.sub_sz k s t (m + 1)
    simp only [Lm.sub, Lm.sz, Lm.dp, Nat.add_mul, Nat.one_mul]; omega
  | .app a b, m => by
    have := s.sz_pos
    have h := Lm.sub_sz k s a m
    have h2 := Lm.sub_sz k s b m
    simp only [Lm.sub, Lm.sz, Lm.dp, Nat.add_mul, Nat.one_mul]; omega
/-- Free variables, as a walk comes by them. -/
def Lm.free : Lm → Int → List Int
  | .var n, m => if m ≤ n then [n - m] else []
  | .lam t, m => t.free (m + 1)
  | .app s t, m => s.free m ++ t.free m
def Spot.free (x : Spot) : List Int := match x.t with | .var n => if (x.lam : Int) ≤ n then [n - x.lam] else [] | _ => []
theorem Lm.walk_free : ∀ (t : Lm) (a : Nat) (u : Int) (m : Nat), (t.walk a u m).flatMap Spot.free = t.free m
  | .var n, a, u, m => by simp [Lm.walk, Spot.free, Lm.free]
  | .lam t, a, u, m => by rw [Lm.walk, List.flatMap_cons, Lm.walk_free t, Lm.free]; simp [Spot.free]
  | .app s t, a, u, m => by rw [Lm.walk, List.flatMap_cons, List.flatMap_append, Lm.walk_free s, Lm.walk_free t, Lm.free]; simp [Spot.free]
theorem Lm.free_range : ∀ (t : Lm) (m : Int), t.ok = true → 0 ≤ m → ∀ i ∈ t.free m, 0 ≤ i ∧ i ≤ 99
  | .var n, m, h, h0, i, hi => by
    simp [Lm.ok] at h
    rw [Lm.free] at hi
    split at hi
    · simp at hi; omega
    · cases hi
  | .lam t, m, h, h0, i, hi => Lm.free_range t (m + 1) h (by omega) i hi
  | .app s t, m, h, h0, i, hi => by
    simp only [Lm.ok, Bool.and_eq_true] at h
    rw [Lm.free] at hi
    rcases List.mem_append.1 hi with hi | hi
    · exact Lm.free_range s m h.1 h0 i hi
    · exact Lm.free_range t m h.2 h0 i hi
theorem Lm.shiftOk_free (d f : Int) : ∀ (t : Lm) (m : Int), 0 ≤ f → t.shiftOk d (f + m) = (t.free m).all fun i => !(decide (f ≤ i) && decide (i + d < f))
  | .var n, m, h => by
    rw [Lm.shiftOk, Lm.free]
    split
    · simp only [List.all_cons, List.all_nil, Bool.and_true]
      rw [Bool.eq_iff_iff]
      simp only [Bool.or_eq_true, decide_eq_true_eq, Bool.not_eq_true', Bool.and_eq_false_iff, decide_eq_false_iff_not]
      omega
    · simp only [List.all_nil, Bool.or_eq_true, decide_eq_true_eq]
      omega
  | .lam t, m, h => by
    rw [Lm.shiftOk, Lm.free, ← Lm.shiftOk_free d f t (m + 1) h, Int.add_assoc]
  | .app s t, m, h => by
    rw [Lm.shiftOk, Lm.free, List.all_append, ← Lm.shiftOk_free d f s m h, ← Lm.shiftOk_free d f t m h]

/-! Reducing. -/
def Lm.beta : Lm → Lm
  | .app (.lam b) a => b.sub 0 a 0
  | t => t
def Lm.redAt : Lm → Nat → Lm
  | .var n, 0 => .var n
  | .var n, _ + 1 => .var n
  | .lam t, 0 => .lam t
  | .lam t, k + 1 => if k < t.sz then .lam (t.redAt k) else .lam t
  | .app s t, 0 => (Lm.app s t).beta
  | .app s t, k + 1 => if k < s.sz then .app (s.redAt k) t else if k < s.sz + t.sz then .app s (t.redAt (k - s.sz)) else .app s t
/-- What stands at a number. -/
def Lm.sub_at : Lm → Nat → Option Lm
  | t, 0 => some t
  | .var _, _ + 1 => none
  | .lam t, k + 1 => t.sub_at k
  | .app s t, k + 1 => if k < s.sz then s.sub_at k else t.sub_at (k - s.sz)
theorem Lm.beta_sz (t : Lm) (h : t.sz ≤ 400) : t.beta.sz ≤ 160000 ∧ t.beta.dp ≤ 800 := by
  have hd := t.dp_sz
  unfold Lm.beta
  split
  · next b a =>
    have h1 := Lm.sub_sz 0 a b 0
    simp only [Lm.sz, Lm.dp] at h hd
    have h2 : b.sz * a.sz ≤ 400 * 400 := Nat.mul_le_mul (by omega) (by omega)
    have := b.dp_sz
    have := a.dp_sz
    omega
  · omega
theorem Lm.redAt_sz : ∀ (t : Lm) (k : Nat), t.sz ≤ 400 → (t.redAt k).sz ≤ 160000 + t.sz ∧ (t.redAt k).dp ≤ 800 + t.sz
  | .var n, 0, h => by rw [Lm.redAt]; simp [Lm.sz, Lm.dp]
  | .var n, k + 1, h => by rw [Lm.redAt]; simp [Lm.sz, Lm.dp]
  | .lam t, 0, h => by have := t.dp_sz; rw [Lm.redAt]; simp only [Lm.sz, Lm.dp]; omega
  | .lam t, k + 1, h => by
    rw [Lm.redAt]
    simp only [Lm.sz] at h
    split
    · have := Lm.redAt_sz t k (by omega); simp only [Lm.sz, Lm.dp]; omega
    · have := t.dp_sz; simp only [Lm.sz, Lm.dp]; omega
  | .app s t, 0, h => by rw [Lm.redAt]; have := Lm.beta_sz _ h; omega
  | .app s t, k + 1, h => by
    have := s.dp_sz
    have := t.dp_sz
    rw [Lm.redAt]
    simp only [Lm.sz] at h
    split
    · have := Lm.redAt_sz s k (by omega); simp only [Lm.sz, Lm.dp]; omega
    · split
      · have := Lm.redAt_sz t (k - s.sz) (by omega); simp only [Lm.sz, Lm.dp]; omega
      · simp only [Lm.sz, Lm.dp]; omega
/-- All redexes reduced at once, where all on the way is good. -/
def Lm.chk (t : Lm) : Option Lm := if t.good then some t else none
def Lm.dev : Lm → Option Lm
  | .var n => (Lm.var n).chk
  | .lam t => match t.dev with | none => none | some t' => (Lm.lam t').chk
  | .app s t => match s.dev with
    | none => none
    | some s' => match t.dev with
      | none => none
      | some t' => (if s.isLam then (Lm.app s' t').beta else Lm.app s' t').chk
theorem Lm.chk_some {t s : Lm} (h : t.chk = some s) : s = t ∧ t.good = true := by
  unfold Lm.chk at h
  split at h
  · next hg => injection h with h; exact ⟨h.symm, hg⟩
  · cases h
theorem Lm.dev_good : ∀ {t s : Lm}, t.dev = some s → s.good = true
  | .var n, s, h => by rw [Lm.dev] at h; obtain ⟨rfl, hg⟩ := Lm.chk_some h; exact hg
  | .lam t, s, h => by
    rw [Lm.dev] at h
    split at h
    · cases h
    · obtain ⟨rfl, hg⟩ := Lm.chk_some h; exact hg
  | .app a b, s, h => by
    rw [Lm.dev] at h
    split at h
    · cases h
    · split at h
      · cases h
      · obtain ⟨rfl, hg⟩ := Lm.chk_some h; exact hg
theorem Lm.dev_lam {t s : Lm} (hl : t.isLam = true) (h : t.dev = some s) : s.isLam = true := by
  cases t with
  | var n => cases hl
  | app a b => cases hl
  | lam t =>
    rw [Lm.dev] at h
    split at h
    · cases h
    · obtain ⟨rfl, _⟩ := Lm.chk_some h; rfl
theorem Lm.good_sz {t : Lm} (h : t.good = true) : t.sz ≤ 150 ∧ t.dp ≤ 40 ∧ t.ok = true := by
  unfold Lm.good at h
  simp only [Bool.and_eq_true, decide_eq_true_eq] at h
  exact ⟨h.2.1, h.2.2, h.1⟩
end Go.Proofs.YtgolfbjfopoeeaaDoor
