/-
  What tellTree answers.
-/
import Derived.Test.YtnnhedncdpfiaaaImplIsGood
import Derived.Maps.OwnIn
namespace Go.Proofs.Ytnnhedncdpfiaaa
open Go.RowKit Go.Shelf BL
set_option linter.unusedVariables false
attribute [local go_sem] Oper.semAt_some

set_option maxHeartbeats 1000000 in
theorem under_any (k n u up : Int) (w : World) :
    Calls Try.prog 110 #[.agg #[.int .i64 k, .int .i64 n, .int .i64 u], .int .i64 up] w fun e w' => e = .returned (.agg #[.int .i64 k, .int .i64 n, .int .i64 up]) ∧ Below w.heap.size w w' := by
  have hz := zero_term.1
  have hRx : RowAt ((w.alloc (.cells #[.int .i64 k, .int .i64 n, .int .i64 up] 54)).alloc (.cells #[.int .i64 k, .int .i64 n, .int .i64 up] 54)) (w.heap.size + 1) 54 #[.int .i64 k, .int .i64 n, .int .i64 up] := by
    have := RowAt.new (w.alloc (.cells #[.int .i64 k, .int .i64 n, .int .i64 up] 54)) 54 #[.int .i64 k, .int .i64 n, .int .i64 up]
    rwa [World.size_alloc] at this
  have HRX := hideT' hRx
  clear hRx
  go_enter Try.func110, Try.ntmps110
  go_wp2
  refine bodyPost_ret (v := .agg #[.int .i64 k, .int .i64 n, .int .i64 up]) (results_cell_row Try.results110 _ _ (w.heap.size + 1) 54 #[.int .i64 k, .int .i64 n, .int .i64 up] (0, 0) _ rfl HRX.out Try.underlying54 rfl zero_term.2) rfl ⟨rfl, ?_⟩
  exact ((Below.refl _ _).alloc (Nat.le_refl _) _).alloc (by simp) _

theorem lateR {ops : Array Oper} {Q : Exit → Act → World → Prop} {a : Act} {w : World} {id l n : Nat} (late : List Nat) (S : World → Prop) (hm : Try.prog.follows .mixedOrders = true) (hd : noDefer ops = true)
    (h : BL.wpAnyL Try.prog .any ops (Calm Q) late S ops.size (Array.replicate ops.size false) a w.drew) : (Code.region id ops true).wpIn (Fence.wide.inRound l) n Try.prog Q a w :=
  wpIn_mono (region_round hm hd (fun ⟨_, _, h⟩ => h) (BL.wpAny_of_late _ _ _ _ h)) Calm.imp
theorem one_slterm : (Try.prog.info? 25).map (·.size) = some 1 := by kernel_rfl
theorem term_cells (w : World) (d : Int × Int × Int) : ∀ j u, (termL d)[j]? = some u → (w.alloc (.cells #[.int .i64 d.1, .int .i64 d.2.1, .int .i64 d.2.2] 54)).cell? ((⟨w.heap.size, 0, none⟩ : Addr).add j) = some u := fun j u hu => by
  have e : (⟨w.heap.size, 0, none⟩ : Addr).add j = ⟨w.heap.size, j, none⟩ := by unfold Addr.add; split <;> simp_all
  rw [e, cell_of_row _ w.heap.size j _ 54 (0, 0) (RowAt.new w 54 #[.int .i64 d.1, .int .i64 d.2.1, .int .i64 d.2.2])]
  simpa [termL] using hu
/-- The nodes of places that a walk came by. -/
def spotsT (pre : List (Spot × Nat)) : List (Int × Int × Int) := pre.map fun x => (x.1.t.kd, x.1.t.nm, x.1.up)
theorem spotsT_app (pre : List (Spot × Nat)) (x : Spot × Nat) : spotsT (pre ++ [x]) = spotsT pre ++ [(x.1.t.kd, x.1.t.nm, x.1.up)] := by simp [spotsT]
theorem spotsT_len (pre : List (Spot × Nat)) : (spotsT pre).length = pre.length := by simp [spotsT]
theorem spotsT_all {pre : List (Spot × Nat)} {t : Lm} (h : pre.map Prod.fst = t.walk 0 (-1) 0) : spotsT pre = tri (t.flat 0 (-1)) := by
  unfold tri
  rw [← Lm.walk_flat t 0 (-1) 0, ← h, List.map_map, List.map_map]
  rfl
def TellI (w : World) (pre : List (Spot × Nat)) (V : Nat → Prop) (W : World) : Prop :=
  ∃ v, (∀ z, V z ↔ (z = w.heap.size ∨ v.ownBlock = some z)) ∧ RowAt W w.heap.size 25 #[v] ∧ OwnR W (w.heap.size + 1) v 54 termL 3 (spotsT pre) ∧ Below w.heap.size w W
theorem TellI.lt {w : World} {pre : List (Spot × Nat)} {V : Nat → Prop} {W : World} (h : TellI w pre V W) : ∀ z, V z → z < W.heap.size := by
  obtain ⟨v, hV, hR, hO, hB⟩ := h
  intro z hz
  rcases (hV z).1 hz with rfl | hz
  · exact hR.lt
  · exact (hO.lt z hz).2
theorem TellI.step {w : World} {pre : List (Spot × Nat)} {V : Nat → Prop} {A B : World} {row : Option Nat} (h : TellI w pre V A) (hg : A.grownBy B row) (hr : ∀ r, row = some r → ¬ V r ∧ w.heap.size ≤ r) : TellI w pre V B := by
  obtain ⟨v, hV, hR, hO, hB⟩ := h
  refine ⟨v, hV, hR.grown hg (fun e => (hr _ e.symm).1 ((hV _).2 (.inl rfl))), own_keep hO (fun g hgo => hg.block g (hO.lt g hgo).2 (fun e => (hr _ e.symm).1 ((hV _).2 (.inr hgo)))), hB.grown hg hB.size (fun k e => (hr k e).2)⟩
/-- How a round of tellTree begins. -/
def tellAct (w : World) (b sb : Nat) (x : Spot × Nat) : Act := { tmps := #[.pointer (some ⟨b, 0, none⟩), undef, .slice none 0 0, .bool false, .pointer (some ⟨w.heap.size, 0, none⟩), .pointer (some ⟨sb, 0, none⟩), .pointer (some ⟨x.2, 0, none⟩), .pointer (some ⟨b, 0, none⟩), .bool true, .bool false, .pointer (some ⟨b, 0, none⟩), .func (.func 87) #[] #[.pointer (some ⟨w.heap.size + 1, 0, none⟩)], .agg #[.int .i64 (x.1.at_ : Int), .int .i64 x.1.up, .int .i64 (x.1.lam : Int)], .pointer (some ⟨x.2, 0, none⟩), undef, undef, undef, undef, undef, undef, undef, undef, undef, undef, undef, undef], defers := [] }
/-- What tellTree answers. -/
def ToldT (w : World) (t : Lm) (e : Ending) (w' : World) : Prop :=
  ∃ u, e = .returned (.tuple #[u, .bool t.good]) ∧ OwnR w' w.heap.size u 54 termL 3 (if t.good then tri (t.flat 0 (-1)) else [])

end Go.Proofs.Ytnnhedncdpfiaaa
