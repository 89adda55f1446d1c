/-
  What spec.lcParts answers.
-/
import Derived.Test.YtgolfbjfopoeeaaDoorTreeMem
import Derived.Test.YtgolfbjfopoeeaaDoorRecInt
import Derived.Test.YtgolfbjfopoeeaaDoorL1In
import Derived.Test.YtgolfbjfopoeeaaDoorBaseLate
import Derived.OwnWalk
namespace Go.Proofs.YtgolfbjfopoeeaaDoor
open Go.RowKit BL
set_option linter.unusedVariables false

def natsI (p : List Nat) : List Int := p.map fun (j : Nat) => (j : Int)
theorem natsI_len (p : List Nat) : (natsI p).length = p.length := by simp [natsI]
theorem natsI_app (p q : List Nat) : natsI (p ++ q) = natsI p ++ natsI q := by simp [natsI]
theorem partsTo_first (l : List Nd) (k : Nat) : partsTo l k (k + 1) = [] := by
  unfold partsTo
  rw [List.filter_eq_nil_iff]
  intro j hj
  have := List.mem_range.1 hj
  simp; omega
theorem oneT_cell (v : Int) : ∀ u ∈ [Value.int .i64 v], u.oneCell' = true := fun u hu => by simp at hu; subst hu; rfl
theorem own_formT {w : World} {B n s : Nat} {T : TypeId} {v : Value} {xs : List Value} (h : w.ownsRow B T s v n xs) : ∃ o cap, v = .slice o n cap := by
  rcases h.2 with ⟨h1, h0⟩ | ⟨g, cap, cur, h1, _⟩
  · exact ⟨none, 0, by rw [h1, h0]⟩
  · exact ⟨_, _, h1⟩
theorem partsTo_le (l : List Nd) (k i : Nat) : (partsTo l k i).length ≤ i := by
  unfold partsTo
  exact Nat.le_trans (List.length_filter_le _ _) (by simp)

set_option maxHeartbeats 4000000 in
set_option maxRecDepth 100000 in
theorem lcParts_any (l : List Nd) (k : Nat) (v : Value) (w : World) (hv : NdIn w v l) (hl : l.length ≤ 1048576) (hk : k < l.length) :
    Calls Tryd.prog 48 #[v, .int .i64 (k : Int)] w fun e w' => (∃ u, e = .returned u ∧ OwnR w' w.heap.size u 3 intL 1 (natsI (partsTo l k l.length))) ∧ Below w.heap.size w w' := by
  have HV := hideT' hv
  obtain ⟨o, cap, rfl⟩ := hv.len
  clear hv
  obtain ⟨i0, hi, hz0, hz1, hz2⟩ := info_parts info_int
  obtain ⟨n, hn⟩ : ∃ n, n = l.length := ⟨_, rfl⟩
  have HNN := hideT' hn
  rw [← hn] at hl hk ⊢
  clear hn
  go_enter Tryd.func48, Tryd.ntmps48
  go_wp2_with fail
  go_loopg [5, 6] (n - (k + 1)) (fun g x i wr => ∃ j : Nat, g = n - j ∧ k < j ∧ j ≤ n ∧ i = .int .i64 (j : Int) ∧ OwnR wr w.heap.size x 3 intL 1 (natsI (partsTo l k j)) ∧ Below w.heap.size w wr)
  case atStart => exact ⟨k + 1, rfl, by omega, by omega, by go_num, by rw [partsTo_first]; exact World.ownsRow_nil _ _ _ _, Below.refl _ _⟩
  case round =>
    obtain ⟨j, hg, hkj, hj, rfl, hO, hW⟩ := hrel
    obtain ⟨o2, cap2, hv2⟩ := own_formT hO
    have HO := hideT' hO
    subst hv2
    by_cases hlt : (j : Int) < (n : Int)
    · obtain ⟨nd, hnd⟩ : ∃ nd, nd = ndAt l j := ⟨_, rfl⟩
      obtain ⟨b, rfl, hb, c0, c1, c2⟩ := (HV.out.below hW).cells (by have := HNN.out; omega) hnd
      have hsucc := partsTo_succ l k j
      have hup : upN l j = nd.u := by unfold upN; rw [hnd]
      rw [hup] at hsucc
      have hpl := partsTo_le l k j
      rw [← natsI_len] at hpl
      clear hnd hup hO
      obtain ⟨kd, nm, u⟩ := nd
      simp only at c2 hsucc
      by_cases hu : u = (k : Int)
      · have HS : Hid (natsI (partsTo l k (j + 1)) = natsI (partsTo l k j) ++ [(j : Int)]) := by unfold Hid; rw [hsucc, decide_eq_true hkj, decide_eq_true hu]; simp [natsI]
        clear hsucc c0 c1
        go_wp2_with (at_builtin; refine wpList_append_own _ rfl _ _ 87 rfl w.heap.size 3 i0 (.int .i64 0) 1 8 Tryd.underlying87 hi hz0 hz1 hz2 rfl (by decide) _ _ _ rfl (HO.out.alloc _) ⟨wr.heap.size, 0, none⟩ 1 1 [.int .i64 (j : Int)] rfl rfl (cell_one_new _ _ _) (oneT_cell _) (by unfold maxLen; omega) (by omega) (by have := hW.size; simp; omega) ?_; intro v' w4 hown' hgrow _)
        have hgb : ∀ g, (Value.slice o2 (natsI (partsTo l k j)).length cap2).ownBlock = some g → w.heap.size ≤ g := fun g e => (HO.out.lt g e).1
        go_roundg (n - (j + 1))
        case measure => omega
        case rel =>
          refine ⟨j + 1, rfl, by omega, by omega, by go_num, ?_, ?_⟩
          · rw [HS.out]
            unfold OwnR
            rw [List.length_append, List.flatMap_append]
            exact hown'
          · exact (hW.alloc hW.size _).grown hgrow (by have := hW.size; simp; omega) (fun k hk => hgb _ hk)
      · have HS : Hid (natsI (partsTo l k (j + 1)) = natsI (partsTo l k j)) := by unfold Hid; rw [hsucc, decide_eq_false hu]; simp
        clear hsucc c0 c1
        go_wp2
        go_roundg (n - (j + 1))
        case measure => omega
        case rel => exact ⟨j + 1, rfl, by omega, by omega, by go_num, by rw [HS.out]; exact HO.out, hW⟩
    · have hjn : j = n := by omega
      subst hjn
      clear hO
      go_wp2
      go_ret
      exact ⟨⟨_, rfl, HO.out⟩, hW⟩
end Go.Proofs.YtgolfbjfopoeeaaDoor
