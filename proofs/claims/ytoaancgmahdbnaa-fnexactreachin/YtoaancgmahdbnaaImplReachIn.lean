/-
  What impl.ReachIn answers.
-/
import Derived.Test.YtoaancgmahdbnaaImplNums
namespace Go.Proofs.Ytoaancgmahdbnaa
open Go.RowKit Go.Shelf BL
set_option linter.unusedVariables false
attribute [local go_sem] Oper.semAt_some

set_option maxRecDepth 100000 in
set_option maxHeartbeats 4000000 in
theorem implReachIn_any (m : Hp) (v1 v2 : Value) (w : World) (hs : HpSmall m 1048576) (hM : HpRd w v1 v2 m) :
    Calls Try.prog 36 #[.agg #[.int .i64 m.old, v1, v2]] w fun e w' => (∃ v, e = .returned (.tuple #[v, .bool (hpOk m)]) ∧ OwnR w' w.heap.size v 3 intL 1 (reachOut m)) ∧ Below w.heap.size w w' := by
  obtain ⟨o1, c1, e1, _⟩ := hM.1
  obtain ⟨o2, c2, e2, _⟩ := hM.2
  subst e1 e2
  obtain ⟨n, hn⟩ : ∃ n, n = m.cells.length := ⟨_, rfl⟩
  have HN := hideT' hn
  rw [← hn] at hM ⊢
  have hB : Below w.heap.size w (w.alloc (.cells #[.int .i64 m.old, .slice o1 n c1, .slice o2 m.roots.length c2] 48)) := (Below.refl _ _).alloc (Nat.le_refl _) _
  have HR : Hid (RowAt (w.alloc (.cells #[.int .i64 m.old, .slice o1 n c1, .slice o2 m.roots.length c2] 48)) w.heap.size 48 #[.int .i64 m.old, .slice o1 n c1, .slice o2 m.roots.length c2]) := RowAt.new _ _ _
  have HG := hideT' (implGoodHeap_any m _ _ _ hs (hM.below hB))
  have HM := hideT' hM
  have HB := hideT' hB
  clear hM hB hn
  go_enter Try.func36, Try.ntmps36
  go_wp2_with fail
  refine HG.out.mono ?_
  rintro e w1 ⟨rfl, hB1⟩
  have hR1 := RowAt.below HR.out hB1 (by simp)
  have hB1' := HB.out.trans (hB1.mono (by simp))
  obtain ⟨q, hq⟩ : ∃ q, q = hpOk m := ⟨_, rfl⟩
  rw [← hq]
  have HQ := hideT' hq
  clear hq
  cases q with
  | false =>
    have HNR : Hid (reachOut m = []) := by unfold Hid reachOut; rw [← HQ.out]; rfl
    have HB1 := hideT' hB1'
    clear hB1 hB1' hR1
    go_wp2
    go_ret2
    exact ⟨⟨_, by rw [← HQ.out]; rfl, by rw [HNR.out]; exact World.ownsRow_nil _ _ _ _⟩, HB1.out⟩
  | true =>
  have hok : hpOk m = true := HQ.out.symm
  have hl1 : n ≤ 200 := by rw [HN.out]; exact (hpOk_all hok).1
  have HNR : Hid (reachOut m = idxI (reachM m 0) n) := by unfold Hid reachOut; rw [hok, HN.out]; rfl
  have hs1 := hB1.size
  simp only [World.size_alloc] at hs1
  have hM1 := HM.out.below hB1'
  have f1 : w1.cell? ⟨w.heap.size, 1, none⟩ = some (.slice o1 n c1) := by rw [cell_of_row _ _ _ _ _ _ hR1]; rfl
  have f2 : w1.cell? ⟨w.heap.size, 2, none⟩ = some (.slice o2 m.roots.length c2) := by rw [cell_of_row _ _ _ _ _ _ hR1]; rfl
  have HC := hideT' (reached_any m hok 0 (by omega) w.heap.size _ _ w1 f1 f2 hM1)
  have HNU : Hid (∀ (mb : Nat) (w2 : World), mb < w2.heap.size → Below w1.heap.size w1 w2 → RecAt w2 mb 4 boolL (reachM m 0) → Calls Try.prog 56 #[.pointer (some ⟨w.heap.size, 0, none⟩), .slice (some ⟨mb, 0, none⟩) n n] w2 fun e w' => (∃ v, e = .returned v ∧ OwnR w' w2.heap.size v 3 intL 1 (idxI (reachM m 0) n)) ∧ Below w2.heap.size w2 w') := by
    intro mb w2 hlt hB2 hD
    refine numbers_any m.cells (reachM m 0) w.heap.size mb 0 n n n c1 o1 w2 ?_ (Nat.le_refl _) hl1 HN.out ?_ ?_ (MarksAt.of_row hD) hlt
    · rw [HN.out]; exact reachM_len (Nat.zero_le _)
    · exact (hB2.cell (p := ⟨w.heap.size, 1, none⟩) (show w.heap.size < w1.heap.size by omega)).trans f1
    · exact hM1.1.below hB2
  have HB1 := hideT' hB1'
  have HS1 := hideT' hs1
  clear hok hB1 hM1 hR1 hB1' f1 f2 hs1
  go_wp2_with fail
  refine HC.out.mono ?_
  rintro e w2 ⟨⟨mb, rfl, hmb, hDm⟩, hB2⟩
  have hml : (reachM m 0).length = n := by rw [HN.out]; exact reachM_len (Nat.zero_le _)
  rw [slR, hml]
  have HC2 := hideT' (HNU.out mb w2 (RecAt.lt hDm) hB2 hDm)
  have HB2 := hideT' hB2
  clear hDm hB2 hml hmb
  go_wp2_with fail
  refine HC2.out.mono ?_
  rintro e w3 ⟨⟨v, rfl, hown⟩, hB3⟩
  have hB2' := HB1.out.trans (HB2.out.mono HB1.out.size)
  have HT := hideT' (hB2'.trans (hB3.mono hB2'.size))
  have HO := hideT' hown
  have HSZ := hideT' hB2'.size
  clear hown hB3 hB2'
  go_wp2
  go_ret2
  refine ⟨⟨v, by rw [← HQ.out]; rfl, ?_⟩, HT.out⟩
  rw [HNR.out]
  exact own_baseX HO.out HSZ.out
end Go.Proofs.Ytoaancgmahdbnaa
