/-
  The model's trees in memory.
-/
import Derived.Test.YtgolfbjfopoeeaaDoorWalkT
import Derived.Test.YtgolfbjfopoeeaaDoorSpecParts
namespace Go.Proofs.YtgolfbjfopoeeaaDoor
open Go.RowKit BL
set_option linter.unusedVariables false

theorem zero_lcT : (∀ w, (zeroValue 48).run Tryd.prog w = .ok (.agg #[.int .i64 0, .int .i64 0, .slice none 0 0]) w) ∧ (Tryd.prog.info? 48).map (·.size) = some 3 := zero_of_info (by kernel_rfl)
theorem info_lcT : (Tryd.prog.info? 48).map (fun i => (i.zero, i.size, i.bytes)) = some (some (.agg #[.int .i64 0, .int .i64 0, .slice none 0 0]), 3, 40) := by kernel_rfl
theorem one_sllc : (Tryd.prog.info? 46).map (·.size) = some 1 := by kernel_rfl
/-- The three cells of a tree. -/
def lcL (k n : Int) (z : Value) : List Value := [.int .i64 k, .int .i64 n, z]
def lcC (k n : Int) (z : Value) : Array Value := #[.int .i64 k, .int .i64 n, z]
theorem lcL_one (k n : Int) (z : Value) (hz : z.oneCell' = true) : ∀ u ∈ lcL k n z, u.oneCell' = true := by
  intro u hu
  simp [lcL] at hu
  rcases hu with rfl | rfl | rfl
  · rfl
  · rfl
  · exact hz
theorem lcC_one (k n : Int) (z : Value) (hz : z.oneCell' = true) : (lcC k n z).all (·.oneCell') = true := Array.all_eq_true_iff_forall_mem.2 (fun v hv => lcL_one k n z hz v (by simpa [lcC, lcL] using hv))
/-- The parts of a tree, in blocks of P alone: z is the slice of its parts. -/
def LcIn (w : World) (P : Nat → Prop) : Lm → Value → Prop
  | .var n, z => ∃ o c, z = .slice o 0 c
  | .lam t, z => ∃ g c z1, z = .slice (some ⟨g, 0, none⟩) 1 c ∧ (g < w.heap.size ∧ P g) ∧ (w.cell? ⟨g, 0, none⟩ = some (.int .i64 t.kd) ∧ w.cell? ⟨g, 1, none⟩ = some (.int .i64 t.nm) ∧ w.cell? ⟨g, 2, none⟩ = some z1) ∧ LcIn w P t z1
  | .app s t, z => ∃ g c z1 z2, z = .slice (some ⟨g, 0, none⟩) 2 c ∧ (g < w.heap.size ∧ P g) ∧ (w.cell? ⟨g, 0, none⟩ = some (.int .i64 s.kd) ∧ w.cell? ⟨g, 1, none⟩ = some (.int .i64 s.nm) ∧ w.cell? ⟨g, 2, none⟩ = some z1) ∧
      (w.cell? ⟨g, 3, none⟩ = some (.int .i64 t.kd) ∧ w.cell? ⟨g, 4, none⟩ = some (.int .i64 t.nm) ∧ w.cell? ⟨g, 5, none⟩ = some z2) ∧ LcIn w P s z1 ∧ LcIn w P t z2
theorem LcIn.form {w : World} {P : Nat → Prop} {t : Lm} {z : Value} (h : LcIn w P t z) : ∃ o c, z = .slice o t.kids.length c := by
  cases t with
  | var n => exact h
  | lam t => obtain ⟨g, c, z1, h, _⟩ := h; exact ⟨_, c, h⟩
  | app s t => obtain ⟨g, c, z1, z2, h, _⟩ := h; exact ⟨_, c, h⟩
theorem LcIn.one {w : World} {P : Nat → Prop} {t : Lm} {z : Value} (h : LcIn w P t z) : z.oneCell' = true := by
  obtain ⟨o, c, rfl⟩ := h.form; rfl
theorem LcIn.keep {w w' : World} {P Q : Nat → Prop} (hw : w.heap.size ≤ w'.heap.size) (hk : ∀ x, P x → x < w.heap.size → w'.heap[x]? = w.heap[x]?) (hQ : ∀ x, P x → x < w.heap.size → Q x) : ∀ {t : Lm} {z : Value}, LcIn w P t z → LcIn w' Q t z
  | .var n, z, h => h
  | .lam t, z, h => by
    obtain ⟨g, c, z1, e, hg, ⟨c0, c1, c2⟩, h1⟩ := h
    have hc : ∀ i, w'.cell? ⟨g, i, none⟩ = w.cell? ⟨g, i, none⟩ := fun i => World.cell?_of_block (w := w) (a := ⟨g, i, none⟩) (hk _ hg.2 hg.1)
    exact ⟨g, c, z1, e, ⟨Nat.lt_of_lt_of_le hg.1 hw, hQ _ hg.2 hg.1⟩, ⟨by rw [hc]; exact c0, by rw [hc]; exact c1, by rw [hc]; exact c2⟩, LcIn.keep hw hk hQ h1⟩
  | .app s t, z, h => by
    obtain ⟨g, c, z1, z2, e, hg, ⟨c0, c1, c2⟩, ⟨c3, c4, c5⟩, h1, h2⟩ := h
    have hc : ∀ i, w'.cell? ⟨g, i, none⟩ = w.cell? ⟨g, i, none⟩ := fun i => World.cell?_of_block (w := w) (a := ⟨g, i, none⟩) (hk _ hg.2 hg.1)
    exact ⟨g, c, z1, z2, e, ⟨Nat.lt_of_lt_of_le hg.1 hw, hQ _ hg.2 hg.1⟩, ⟨by rw [hc]; exact c0, by rw [hc]; exact c1, by rw [hc]; exact c2⟩, ⟨by rw [hc]; exact c3, by rw [hc]; exact c4, by rw [hc]; exact c5⟩, LcIn.keep hw hk hQ h1, LcIn.keep hw hk hQ h2⟩
theorem LcIn.below {w w' : World} {P : Nat → Prop} (hB : Below w.heap.size w w') {t : Lm} {z : Value} (h : LcIn w P t z) : LcIn w' P t z := LcIn.keep hB.size (fun x _ hx => hB.block x hx) (fun _ h _ => h) h
theorem LcIn.mono {w : World} {P Q : Nat → Prop} (hQ : ∀ x, P x → x < w.heap.size → Q x) {t : Lm} {z : Value} (h : LcIn w P t z) : LcIn w Q t z := LcIn.keep (Nat.le_refl _) (fun _ _ _ => rfl) hQ h
/-- The parts one by one. -/
theorem LcIn.parts {w : World} {P : Nat → Prop} {t : Lm} {z : Value} (h : LcIn w P t z) : ∃ o c, z = .slice o t.kids.length c ∧ ∀ i s, t.kids[i]? = some s → ∃ g z1, o = some ⟨g, 0, none⟩ ∧ (g < w.heap.size ∧ P g) ∧ (w.cell? ⟨g, i * 3, none⟩ = some (.int .i64 s.kd) ∧ w.cell? ⟨g, i * 3 + 1, none⟩ = some (.int .i64 s.nm) ∧ w.cell? ⟨g, i * 3 + 2, none⟩ = some z1) ∧ LcIn w P s z1 := by
  cases t with
  | var n =>
    obtain ⟨o, c, rfl⟩ := h
    exact ⟨o, c, rfl, fun i s hi => by simp [Lm.kids] at hi⟩
  | lam t =>
    obtain ⟨g, c, z1, rfl, hg, hc, h1⟩ := h
    refine ⟨_, c, rfl, fun i s hi => ?_⟩
    match i, hi with
    | 0, hi => cases hi; exact ⟨g, z1, rfl, hg, hc, h1⟩
    | i + 1, hi => simp [Lm.kids] at hi
  | app s t =>
    obtain ⟨g, c, z1, z2, rfl, hg, hc, hc2, h1, h2⟩ := h
    refine ⟨_, c, rfl, fun i s hi => ?_⟩
    match i, hi with
    | 0, hi => cases hi; exact ⟨g, z1, rfl, hg, hc, h1⟩
    | 1, hi => cases hi; exact ⟨g, z2, rfl, hg, hc2, h2⟩
    | i + 2, hi => simp [Lm.kids] at hi
/-- Trees one behind the other: their cells. -/
def LcsIn (w : World) (P : Nat → Prop) : List Lm → List Value → Prop
  | [], ys => ys = []
  | s :: ss, ys => ∃ z zs, ys = lcL s.kd s.nm z ++ zs ∧ LcIn w P s z ∧ LcsIn w P ss zs
theorem LcsIn.keep {w w' : World} {P Q : Nat → Prop} (hw : w.heap.size ≤ w'.heap.size) (hk : ∀ x, P x → x < w.heap.size → w'.heap[x]? = w.heap[x]?) (hQ : ∀ x, P x → x < w.heap.size → Q x) : ∀ {ss : List Lm} {ys : List Value}, LcsIn w P ss ys → LcsIn w' Q ss ys
  | [], ys, h => h
  | s :: ss, ys, h => by
    obtain ⟨z, zs, e, h1, h2⟩ := h
    exact ⟨z, zs, e, LcIn.keep hw hk hQ h1, LcsIn.keep hw hk hQ h2⟩
theorem LcsIn.snoc {w : World} {P : Nat → Prop} {t : Lm} {z : Value} (ht : LcIn w P t z) : ∀ {ss : List Lm} {ys : List Value}, LcsIn w P ss ys → LcsIn w P (ss ++ [t]) (ys ++ lcL t.kd t.nm z)
  | [], ys, h => by
    rw [LcsIn] at h
    subst h
    exact ⟨z, [], by simp, ht, rfl⟩
  | s :: ss, ys, h => by
    obtain ⟨z', zs, e, h1, h2⟩ := h
    exact ⟨z', zs ++ lcL t.kd t.nm z, by rw [e, List.append_assoc], h1, LcsIn.snoc ht h2⟩
theorem LcsIn.len {w : World} {P : Nat → Prop} : ∀ {ss : List Lm} {ys : List Value}, LcsIn w P ss ys → ys.length = 3 * ss.length
  | [], ys, h => by rw [LcsIn] at h; subst h; rfl
  | s :: ss, ys, h => by
    obtain ⟨z', zs, rfl, h1, h2⟩ := h
    rw [List.length_append, LcsIn.len h2]
    simp [lcL]; omega
/-- A tree whose parts lie in an own row. -/
theorem LcIn.of_row {w : World} {P : Nat → Prop} {t : Lm} {z : Value} {B : Nat} {ys : List Value} (h : w.ownsRow B 48 3 z t.kids.length ys) (hy : LcsIn w P t.kids ys) (hP : ∀ g, z.ownBlock = some g → P g) : LcIn w P t z := by
  rcases h.2 with ⟨rfl, h0⟩ | ⟨g, cap, cur, rfl, hBg, hg, hr⟩
  · cases t with
    | var n => exact ⟨none, 0, rfl⟩
    | lam t => simp [Lm.kids] at h0
    | app s t => simp [Lm.kids] at h0
  · have hgl : g < w.heap.size := (Array.getElem?_eq_some_iff.1 hg).1
    have hgP : P g := hP g rfl
    have hcell : ∀ i, i < t.kids.length * 3 → w.cell? ⟨g, i, none⟩ = ys[i]? := fun i hi => World.ownsRow.cellAt h i hi
    cases t with
    | var n => exact ⟨_, _, rfl⟩
    | lam t =>
      obtain ⟨z1, zs, rfl, h1, h2⟩ := hy
      refine ⟨g, cap, z1, rfl, ⟨hgl, hgP⟩, ⟨?_, ?_, ?_⟩, h1⟩
      · rw [hcell 0 (by simp [Lm.kids])]; rfl
      · rw [hcell 1 (by simp [Lm.kids])]; rfl
      · rw [hcell 2 (by simp [Lm.kids])]; rfl
    | app s t =>
      obtain ⟨z1, zs, rfl, h1, h2⟩ := hy
      obtain ⟨z2, zs2, rfl, h3, h4⟩ := h2
      refine ⟨g, cap, z1, z2, rfl, ⟨hgl, hgP⟩, ⟨?_, ?_, ?_⟩, ⟨?_, ?_, ?_⟩, h1, h3⟩
      · rw [hcell 0 (by simp [Lm.kids])]; rfl
      · rw [hcell 1 (by simp [Lm.kids])]; rfl
      · rw [hcell 2 (by simp [Lm.kids])]; rfl
      · rw [hcell 3 (by simp [Lm.kids])]; rfl
      · rw [hcell 4 (by simp [Lm.kids])]; rfl
      · rw [hcell 5 (by simp [Lm.kids])]; rfl
end Go.Proofs.YtgolfbjfopoeeaaDoor
