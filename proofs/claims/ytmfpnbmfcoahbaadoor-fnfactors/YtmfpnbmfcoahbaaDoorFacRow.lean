/-
  A row of numbers' texts that grows: one is put behind.
-/
import Derived.Test.YtmfpnbmfcoahbaaDoorFacMath
import Derived.Test.YtmfpnbmfcoahbaaDoorRecString
import Derived.Test.YtmfpnbmfcoahbaaDoorRecs2
import Derived.Test.YtmfpnbmfcoahbaaDoorNumAll
import Derived.Test.YtmfpnbmfcoahbaaDoorBaseLate
import Derived.Laws.AppendOwn
namespace Go.Proofs.YtmfpnbmfcoahbaaDoor
open Go.RowKit
set_option linter.unusedVariables false

def txL (l : List Nat) : List ByteArray := l.map (fun n : Nat => numB (n : Int))
/-- The texts of these numbers, in new memory. -/
def Facs (w : World) (B : Nat) (v : Value) (l : List Nat) : Prop := OwnR w B v 9 stringL 1 (txL l)
theorem str_info : ∃ i, Tryd.prog.info? 9 = some i ∧ i.zero = some (.string ⟨#[]⟩) ∧ i.size = 1 ∧ i.bytes = 16 := by
  have h : (Tryd.prog.info? 9).map (fun i => (i.zero, i.size, i.bytes)) = some (some (.string ⟨#[]⟩), 1, 16) := by kernel_rfl
  cases hq : Tryd.prog.info? 9 with
  | none => simp [hq] at h
  | some i => simp [hq] at h; exact ⟨i, rfl, h.1, h.2.1, h.2.2⟩
theorem txL_app (l : List Nat) (n : Nat) : txL (l ++ [n]) = txL l ++ [numB (n : Int)] := by simp [txL]
theorem Facs.nil (w : World) (B : Nat) : Facs w B (.slice none 0 0) [] := World.ownsRow_nil _ _ _ _
theorem Facs.below {w w' : World} {B C : Nat} {v : Value} {l : List Nat} (h : Facs w B v l) (hB : Below C w w') (hC : w.heap.size ≤ C) : Facs w' B v l := OwnR.below h hB hC
theorem one_new (w : World) (s : ByteArray) : ∀ j u, ([Value.string s] : List Value)[j]? = some u → (w.alloc (.cells #[.string s] 9)).cell? ((⟨w.heap.size, 0, none⟩ : Addr).add j) = some u := by
  intro j u hu
  have hj : j = 0 := by
    rcases j with _ | j
    · rfl
    · simp at hu
  subst hj
  rw [Addr.add_mid, Nat.zero_add, cell_of_row _ w.heap.size 0 _ _ _ (RowAt.new w 9 #[.string s])]
  simpa using hu
theorem str_one (s : ByteArray) : ∀ u ∈ ([Value.string s] : List Value), u.oneCell' = true := by
  intro u hu; simp at hu; subst hu; rfl
theorem Facs.put {w' : World} {B n : Nat} {v : Value} {l : List Nat} {xs : List Value} (h : w'.ownsRow B 9 1 v n xs) (hn : n = (txL l).length + 1) (q : Nat) (hx : xs = (txL l).flatMap stringL ++ [.string (numB (q : Int))]) : Facs w' B v (l ++ [q]) := by
  subst hn hx
  unfold Facs OwnR
  rw [txL_app, List.length_append, List.flatMap_append]
  exact h
end Go.Proofs.YtmfpnbmfcoahbaaDoor
