/-
  What is told of a term that may be none: the answers of functions that give a term and whether it is good.
-/
import Derived.Test.YtgolfbjfopoeeaaDoorImplTell
import Derived.Test.YtgolfbjfopoeeaaDoorSpecTold
namespace Go.Proofs.YtgolfbjfopoeeaaDoor
open Go.RowKit BL
set_option linter.unusedVariables false

def toldB : Option Lm → Bool
  | none => false
  | some t => t.good
def toldL : Option Lm → List (Int × Int × Int)
  | none => []
  | some t => if t.good then tri (t.flat 0 (-1)) else []
theorem toldL_len (o : Option Lm) : (toldL o).length ≤ 1048576 := by
  cases o with
  | none => simp [toldL]
  | some t =>
    unfold toldL
    simp only
    split
    · next h => rw [tri_len, Lm.flat_sz]; have := (Lm.good_sz h).1; omega
    · simp
def TOut (w : World) (o : Option Lm) (e : Ending) (w' : World) : Prop := ∃ u, e = .returned (.tuple #[u, .bool (toldB o)]) ∧ OwnR w' w.heap.size u 51 termL 3 (toldL o)
theorem TOut.no {w w' : World} : TOut w none (.returned (.tuple #[.slice none 0 0, .bool false])) w' := ⟨_, rfl, World.ownsRow_nil _ _ _ _⟩
theorem TOut.bad {w w' : World} {o : Option Lm} (h : o = none) : TOut w o (.returned (.tuple #[.slice none 0 0, .bool false])) w' := by subst h; exact TOut.no
theorem ToldT.out {w w1 w' : World} {t : Lm} {e : Ending} {o : Option Lm} (h : ToldT w1 t e w') (hs : w.heap.size ≤ w1.heap.size) (ho : o = some t) : TOut w o e w' := by
  subst ho
  obtain ⟨u, he, hO⟩ := h
  exact ⟨u, he, ⟨hO.1, hO.2.imp id fun ⟨g, cap, cur, h1, h2, h3⟩ => ⟨g, cap, cur, h1, Nat.le_trans hs h2, h3⟩⟩⟩
/-- A told answer's parts. -/
theorem ToldT.parts {w w' : World} {t : Lm} {e : Ending} (h : ToldT w t e w') : ∃ u, e = .returned (.tuple #[u, .bool t.good]) ∧ OwnR w' w.heap.size u 51 termL 3 (toldL (some t)) := h
theorem readP'_facts {l : List Nd} {t : Lm} (h : readP' l = some t) : l = t.flat 0 (-1) ∧ t.sz ≤ 150 ∧ t.dp ≤ 40 ∧ t.ok = true ∧ t.good = true := by
  have h1 := (readP'_iff l t).1 h
  have h2 := Lm.good_sz h1.2
  exact ⟨h1.1, h2.1, h2.2.1, h2.2.2, h1.2⟩
theorem goodS_none {l : List Nd} (h : readP' l = none) : goodS l = false := by rw [goodS_read, h]; rfl
theorem goodS_some {l : List Nd} {t : Lm} (h : readP' l = some t) : goodS l = true := by rw [goodS_read, h]; rfl
/-- lcTree of a whole good row. -/
theorem lcTree_whole (l : List Nd) (t : Lm) (v : Value) (w : World) (hv : NdIn w v l) (h : readP' l = some t) :
    Calls Tryd.prog 27 #[v, .int .i64 0] w fun e w' => (∃ z, e = .returned (.agg (lcC t.kd t.nm z)) ∧ LcIn w' (fun x => w.heap.size ≤ x) t z) ∧ Below w.heap.size w w' := by
  obtain ⟨h1, h2, _⟩ := readP'_facts h
  exact lcTree_all t.sz t (Nat.le_refl _) l 0 (-1) v w (by rw [h1, Lm.flat_sz]; exact h2) hv (by rw [h1]; exact Seg.whole t) (fun i h3 h4 => by rw [h1, Lm.flat_sz] at h4; omega)
end Go.Proofs.YtgolfbjfopoeeaaDoor
