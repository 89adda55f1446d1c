/-
  Rows of records that are answers: read, written, and the laws' markL.
-/
import Derived.Test.YtmfpnbmfcoahbaaDoorRecs
import Derived.Test.YtmfpnbmfcoahbaaDoorDec
import Derived.Test.YtmfpnbmfcoahbaaDoorNum
import Derived.Laws.OwnMore
namespace Go.Proofs.YtmfpnbmfcoahbaaDoor
open Go.RowKit
set_option linter.unusedVariables false

/-- A slice of records that can be read. -/
def InR {X : Type} [Inhabited X] (w : World) (v : Value) (f : X → List Value) (c : Nat) (l : List X) : Prop :=
  ∃ (o : Option Addr) (cap : Nat), v = .slice o l.length cap ∧ (l ≠ [] → ∃ b, o = some ⟨b, 0, none⟩ ∧ b < w.heap.size ∧ ∀ i j u, i < l.length → (f (l.getD i default))[j]? = some u → w.cell? ⟨b, i * c + j, none⟩ = some u)
/-- A slice of records in new memory. -/
abbrev OwnR {X : Type} (w : World) (B : Nat) (v : Value) (T : TypeId) (f : X → List Value) (c : Nat) (l : List X) : Prop := w.ownsRow B T c v l.length (l.flatMap f)

theorem InR.below {X : Type} [Inhabited X] {w w' : World} {v : Value} {f : X → List Value} {c : Nat} {l : List X} (h : InR w v f c l) (hB : Below w.heap.size w w') : InR w' v f c l := by
  obtain ⟨o, cap, rfl, h⟩ := h
  refine ⟨o, cap, rfl, fun hl => ?_⟩
  obtain ⟨b, e, hb, hc⟩ := h hl
  refine ⟨b, e, Nat.lt_of_lt_of_le hb hB.size, fun i j u hi hu => ?_⟩
  rw [hB.cell (p := ⟨b, i * c + j, none⟩) hb]
  exact hc i j u hi hu
theorem InR.grown {X : Type} [Inhabited X] {w w' : World} {v : Value} {f : X → List Value} {c : Nat} {l : List X} {row : Option Nat} (h : InR w v f c l) (hg : w.grownBy w' row) (hne : l ≠ [] → v.ownBlock ≠ row) : InR w' v f c l := by
  obtain ⟨o, cap, rfl, h⟩ := h
  refine ⟨o, cap, rfl, fun hl => ?_⟩
  obtain ⟨b, rfl, hb, hc⟩ := h hl
  have hn := hne hl
  refine ⟨b, rfl, Nat.lt_of_lt_of_le hb hg.size, fun i j u hi hu => ?_⟩
  exact hg.cell (hc i j u hi hu) (by simpa [Value.ownBlock] using hn)
theorem RecAt.inR {X : Type} [Inhabited X] {w : World} {b : Nat} {T : TypeId} {f : X → List Value} {c : Nat} {l : List X} (h : RecAt w b T f l) (hc : ∀ x, (f x).length = c) : InR w (slR b l) f c l := by
  refine ⟨_, _, rfl, fun _ => ⟨b, rfl, h.lt, fun i j u hi hu => ?_⟩⟩
  have hj : j < c := by have := (List.getElem?_eq_some_iff.1 hu).1; rw [hc] at this; exact this
  rw [h.cell hc i j hi hj]; exact hu
theorem OwnR.inR {X : Type} [Inhabited X] {w : World} {B : Nat} {v : Value} {T : TypeId} {f : X → List Value} {c : Nat} {l : List X} (h : OwnR w B v T f c l) (hc : ∀ x, (f x).length = c) : InR w v f c l := by
  rcases h.2 with ⟨rfl, h0⟩ | ⟨g, cap, cur, rfl, _, hg, _⟩
  · exact ⟨none, 0, by rw [h0], fun hl => absurd (List.length_eq_zero_iff.1 h0) hl⟩
  · refine ⟨_, cap, rfl, fun _ => ⟨g, rfl, (Array.getElem?_eq_some_iff.1 hg).1, fun i j u hi hu => ?_⟩⟩
    have hj : j < c := by have := (List.getElem?_eq_some_iff.1 hu).1; rw [hc] at this; exact this
    rw [World.ownsRow.cellAt h (i * c + j) (by
      have h1 : (i + 1) * c ≤ l.length * c := Nat.mul_le_mul_right c hi
      rw [Nat.add_mul] at h1; omega), rec_get f c hc l i j hi hj]
    exact hu
theorem RecAt.own {X : Type} {w : World} {B b : Nat} {T : TypeId} {f : X → List Value} {c : Nat} {l : List X} (h : RecAt w b T f l) (hc : ∀ x, (f x).length = c) (hB : B ≤ b) (hm : l.length ≤ maxLen) : OwnR w B (slR b l) T f c l :=
  ⟨rec_len f c hc l, .inr ⟨b, l.length, (l.flatMap f).toArray, rfl, hB, h, Nat.le_refl _, hm, by simp only [List.size_toArray, rec_len f c hc l], by rw [List.take_of_length_le (by simp only [rec_len f c hc l]; exact Nat.le_refl _)]⟩⟩
theorem OwnR.below {X : Type} {w w' : World} {B C : Nat} {v : Value} {T : TypeId} {f : X → List Value} {c : Nat} {l : List X} (h : OwnR w B v T f c l) (hB : Below C w w') (hC : w.heap.size ≤ C) : OwnR w' B v T f c l := by
  refine ⟨h.1, ?_⟩
  rcases h.2 with h1 | ⟨g, cap, cur, h1, h2, h3, h4⟩
  · exact .inl h1
  · have hlt : g < w.heap.size := (Array.getElem?_eq_some_iff.1 h3).1
    exact .inr ⟨g, cap, cur, h1, h2, by rw [hB.block g (by omega)]; exact h3, h4⟩

/-- A cell of an own row is written. -/
theorem store_own {ops : Array Oper} {rest : List Oper} {op : Oper} {a : Act} {w : World} {Q : Exit → Act → World → Prop} (hgd : op.guard = none) (ty : TypeId) (x y : Operand) (ho : op.op = .store ty x y) (hd : op.dst = none)
    (b o : Nat) (v : Value) (hx : a.eval x = .pointer (some ⟨b, o, none⟩)) (hy : a.eval y = v) (hi : (Tryd.prog.info? ty).map (·.size) = some 1) (h1 : v.oneCell' = true) {B : Nat} {T : TypeId} {c n cap : Nat} {xs : List Value} (hown : w.ownsRow B T c (.slice (some ⟨b, 0, none⟩) n cap) n xs) (hon : o < n * c)
    (h : ∀ w', w'.ownsRow B T c (.slice (some ⟨b, 0, none⟩) n cap) n (xs.set o v) → w.grownBy w' (some b) → w'.heap.size = w.heap.size → wpList Tryd.prog ops Q rest a w') : wpList Tryd.prog ops Q (op :: rest) a w :=
  wpList_plain hgd fun _ hK => by
    have hsome : (w.cell? ⟨b, o, none⟩).isSome = true := by
      rw [World.ownsRow.cellAt hown o hon, List.getElem?_eq_getElem (by rw [hown.1]; exact hon)]; rfl
    unfold Oper.wp execOp
    simp only [ho, hx, hy, Instr.storeAt, Instr.sureAddr, Sem.run_bind, Sem.run_pure, Result.andThen_ok, run_storeVar_cell w b o ty v hsome (World.ownsRow.frozenAt hown o) hi h1]
    have := h _ (World.ownsRow.stored hown o v).1 (World.ownsRow.stored hown o v).2 (by simp)
    have e : a.put op.dst undef = a := by rw [hd]; rfl
    refine hK _ _ ?_
    rw [e]
    exact this

theorem size1_int : (Tryd.prog.info? 3).map (·.size) = some 1 := by kernel_rfl
theorem size1_bool : (Tryd.prog.info? 4).map (·.size) = some 1 := by kernel_rfl
theorem size1_str : (Tryd.prog.info? 9).map (·.size) = some 1 := by kernel_rfl

/-- The markL of a row: m makes one out of the number at which it begins. -/
def markL {X : Type} (m : Int → X) (c : Nat) (k : Int) (n : Nat) : List X := (List.range n).map fun (i : Nat) => m (k + (c : Int) * (i : Int))
theorem markL_len {X : Type} (m : Int → X) (c : Nat) (k : Int) (n : Nat) : (markL m c k n).length = n := by simp [markL]
theorem markL_get {X : Type} [Inhabited X] (m : Int → X) (c : Nat) (k : Int) (n i : Nat) (hi : i < n) : (markL m c k n).getD i default = m (k + (c : Int) * (i : Int)) := by
  simp [markL, List.getD, hi]
/-- The first i records of a row of cells are markL. -/
def Marked {X : Type} (f : X → List Value) (m : Int → X) (c : Nat) (k : Int) (i : Nat) (xs : List Value) : Prop := ∀ j, j < i → ∀ q, q < c → xs[j * c + q]? = (f (m (k + (c : Int) * (j : Int))))[q]?
theorem Marked.all {X : Type} [Inhabited X] {f : X → List Value} {m : Int → X} {c : Nat} {k : Int} {n : Nat} {xs : List Value} (h : Marked f m c k n xs) (hc : ∀ x, (f x).length = c) (hl : xs.length = n * c) : xs = (markL m c k n).flatMap f := by
  apply List.ext_getElem?
  intro i
  by_cases hi : i < n * c
  · have hc0 : 0 < c := by
      rcases Nat.eq_zero_or_pos c with h0 | h0
      · rw [h0] at hi; omega
      · exact h0
    have hd : i / c < n := Nat.div_lt_of_lt_mul (by rw [Nat.mul_comm]; exact hi)
    have h1 := h (i / c) hd (i % c) (Nat.mod_lt _ hc0)
    have h2 := rec_get f c hc (markL m c k n) (i / c) (i % c) (by rw [markL_len]; exact hd) (Nat.mod_lt _ hc0)
    rw [Nat.mul_comm (i / c), Nat.div_add_mod] at h1 h2
    rw [h1, h2, markL_get m c k n _ hd]
  · rw [List.getElem?_eq_none (by omega), List.getElem?_eq_none (by rw [rec_len f c hc, markL_len]; omega)]
theorem Marked.set {X : Type} {f : X → List Value} {m : Int → X} {c : Nat} {k : Int} {i : Nat} {xs : List Value} (h : Marked f m c k i xs) (o : Nat) (u : Value) (ho : i * c ≤ o) : Marked f m c k i (xs.set o u) := fun j hj q hq => by
  have h1 : (j + 1) * c ≤ i * c := Nat.mul_le_mul_right c hj
  rw [Nat.add_mul] at h1
  rw [List.getElem?_set_ne (by omega)]
  exact h j hj q hq

theorem grownX_trans {a b c : World} {row : Option Nat} (h : a.grownBy b row) (k : b.grownBy c row) : a.grownBy c row :=
  ⟨k.os.trans h.os, k.tape.trans h.tape, k.output.trans h.output, Nat.le_trans h.size k.size, fun i hi hr => (k.block i (Nat.lt_of_lt_of_le hi h.size) hr).trans (h.block i hi hr)⟩
theorem Below.grownBy' {a b : World} (h : Below a.heap.size a b) {row : Option Nat} : a.grownBy b row := ⟨h.os, h.tape, h.output, h.size, fun i hi _ => h.block i hi⟩
/-- The text of a mark. -/
def markT (k : Int) : ByteArray := ⟨(109 :: Lib.decDigits k.toNat).toArray⟩
end Go.Proofs.YtmfpnbmfcoahbaaDoor
