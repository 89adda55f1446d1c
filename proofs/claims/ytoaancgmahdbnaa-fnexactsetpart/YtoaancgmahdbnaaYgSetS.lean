/-
  What the model's lhSet and SetPart answer.
-/
import Derived.Test.YtoaancgmahdbnaaYgCopy
import Derived.Test.YtoaancgmahdbnaaL1In
import Derived.Deep.CutRange
import Derived.Deep.DeepCutAuto
namespace Go.Proofs.Ytoaancgmahdbnaa
open Go.RowKit Go.Shelf BL
set_option linter.unusedVariables false
attribute [local go_sem] Oper.semAt_some

/-- What holds while the new notes are written. -/
def SeI (m : Yg) (CS : List Cl) (w : World) (n : Nat) (o2 o3 : Option Addr) (c2 c3 g cg : Nat) (v : Value) (out : List Int) (W : World) : Prop :=
  (RowAt W w.heap.size 30 #[.int .i64 m.h.old, .slice (some ⟨g, 0, none⟩) n cg, .slice o2 m.h.roots.length c2, .slice o3 m.noted.length c3] ∧ RowAt W (w.heap.size + 1) 30 #[.int .i64 0, .slice none 0 0, .slice none 0 0, .slice none 0 0]) ∧
  (OwnR W (w.heap.size + 2) (.slice (some ⟨g, 0, none⟩) n cg) 59 cellL 4 CS ∧ OwnR W (w.heap.size + 2) v 3 intL 1 out) ∧ Below w.heap.size w W ∧ w.heap.size + 2 ≤ W.heap.size
theorem SeI.add {m : Yg} {CS : List Cl} {w : World} {n : Nat} {o2 o3 : Option Addr} {c2 c3 g cg : Nat} {v v' : Value} {out : List Int} {W W' : World} (h : SeI m CS w n o2 o3 c2 c3 g cg v out W) (x : Int) (o : Obj) (hown : W'.ownsRow (w.heap.size + 2) 3 1 v' (out.length + 1) (out.flatMap intL ++ [.int .i64 x])) (hg : (W.alloc o).grownBy W' v.ownBlock) : SeI m CS w n o2 o3 c2 c3 g cg v' (out ++ [x]) W' := by
  obtain ⟨⟨h1, h2⟩, ⟨h3, h4⟩, h5, h6⟩ := h
  have hne : ∀ k, k < w.heap.size + 2 → some k ≠ v.ownBlock := fun k hk e => by have := (h4.lt k e.symm).1; omega
  have hsz := hg.size
  rw [World.size_alloc] at hsz
  refine ⟨⟨(h1.old o).grown hg (hne _ (by omega)), (h2.old o).grown hg (hne _ (by omega))⟩, ⟨(World.ownsRow.alloc h3 o).kept hg (.inr (fun e => own_apart (by decide) h3 h4 g rfl e.symm)), ?_⟩, (h5.alloc h5.size o).grown hg (by rw [World.size_alloc]; omega) (fun k e => by have := (h4.lt k e).1; omega), by omega⟩
  unfold OwnR
  rw [List.length_append, List.flatMap_append]
  exact hown
theorem take_drop_putL (a : Int) (p : Bool) (l : List Int) {j : Nat} (hj : j < l.length) : putL a p (l.drop j) = if p && decide (a < l.getD j default) then a :: l.getD j default :: putL a false (l.drop (j + 1)) else l.getD j default :: putL a p (l.drop (j + 1)) := by
  have e : l.getD j default = l[j] := by simp [List.getD, List.getElem?_eq_getElem hj]
  rw [List.drop_eq_getElem_cons hj, putL, e]

set_option maxRecDepth 100000 in
set_option maxHeartbeats 8000000 in
theorem lhSet_any (m : Yg) (o1 o2 o3 : Option Addr) (c1 c2 c3 : Nat) (a b : Int) (second : Bool) (w : World) (hl1 : m.h.cells.length ≤ 200) (hl2 : m.h.roots.length ≤ 60) (hl3 : m.noted.length ≤ 200) (hcs : canS m.h a b = true) (hM : YgRd w (.slice o1 m.h.cells.length c1) (.slice o2 m.h.roots.length c2) (.slice o3 m.noted.length c3) m) :
    Calls Try.prog 64 #[.agg #[.int .i64 m.h.old, .slice o1 m.h.cells.length c1, .slice o2 m.h.roots.length c2, .slice o3 m.noted.length c3], .int .i64 a, .bool second, .int .i64 b] w fun e w' => (∃ u1 u2 u3, e = .returned (.agg #[.int .i64 m.h.old, u1, u2, u3]) ∧ YgO w' w.heap.size u1 u2 u3 (setM m a b second)) ∧ Below w.heap.size w w' := by
  obtain ⟨⟨k, rfl, hkn⟩, _, hlf⟩ := canS_all hcs
  have HM := hideT' hM
  have HFL := hideT' (setCl_flat m.h.cells k hkn second b)
  have HSM : Hid (setM m (k : Int) b second = ⟨⟨m.h.old, setCl m.h.cells k second b, m.h.roots⟩, putL (k : Int) (putS m (k : Int) b) m.noted⟩) := by unfold Hid setM; rw [Int.toNat_natCast]
  obtain ⟨n, hn⟩ : ∃ n, n = m.h.cells.length := ⟨_, rfl⟩
  have HN := hideT' hn
  have HLC : Hid ((setCl m.h.cells k second b).length = n) := by unfold Hid setCl; rw [List.length_set, hn]
  rw [← hn] at hl1 HM hkn ⊢
  have hkn' : (k : Int) < (n : Int) := by omega
  obtain ⟨i1, hi1, hz10, hz11, hz12⟩ := info_parts info_cell
  obtain ⟨i2, hi2, hz20, hz21, hz22⟩ := info_parts info_int
  obtain ⟨wA, hwA⟩ : ∃ wA, wA = ((w.alloc (.cells #[.int .i64 m.h.old, .slice o1 n c1, .slice o2 m.h.roots.length c2, .slice o3 m.noted.length c3] 30)).alloc (.cells #[.int .i64 0, .slice none 0 0, .slice none 0 0, .slice none 0 0] 30)).alloc (.cells #[] 59) := ⟨_, rfl⟩
  have hBA : Below w.heap.size w wA := by rw [hwA]; exact (((Below.refl _ w).alloc (Nat.le_refl _) _).alloc (by simp) _).alloc (by simp; omega) _
  have hsA : wA.heap.size = w.heap.size + 3 := by rw [hwA]; simp
  have a0 : RowAt wA w.heap.size 30 #[.int .i64 m.h.old, .slice o1 n c1, .slice o2 m.h.roots.length c2, .slice o3 m.noted.length c3] := by rw [hwA]; exact RowAt.old (RowAt.old (RowAt.new _ _ _) _) _
  have a1 : RowAt wA (w.heap.size + 1) 30 #[.int .i64 0, .slice none 0 0, .slice none 0 0, .slice none 0 0] := by
    rw [hwA]
    have := RowAt.new (w.alloc (.cells #[.int .i64 m.h.old, .slice o1 n c1, .slice o2 m.h.roots.length c2, .slice o3 m.noted.length c3] 30)) 30 #[.int .i64 0, .slice none 0 0, .slice none 0 0, .slice none 0 0]
    rw [World.size_alloc] at this
    exact RowAt.old this _
  have a2 : RowAt wA (w.heap.size + 2) 59 #[] := by
    rw [hwA]
    have := RowAt.new ((w.alloc (.cells #[.int .i64 m.h.old, .slice o1 n c1, .slice o2 m.h.roots.length c2, .slice o3 m.noted.length c3] 30)).alloc (.cells #[.int .i64 0, .slice none 0 0, .slice none 0 0, .slice none 0 0] 30)) 59 #[]
    rwa [World.size_alloc, World.size_alloc] at this
  have f1 : wA.cell? ⟨w.heap.size, 1, none⟩ = some (.slice o1 n c1) := by rw [cell_of_row _ _ _ _ _ _ a0]; rfl
  have HIA : Hid (InR wA (.slice o1 n c1) cellL 4 m.h.cells) := (HM.out.below hBA).1.1
  have HA := hideT' (And.intro a0 (And.intro a1 (And.intro a2 hBA)))
  have HWA := hideT' hwA
  rw [hwA] at f1
  clear hn hM a0 a1 a2 hBA hwA hcs hlf
  go_enter Try.func64, Try.ntmps64
  go_upto_if 18 with (first | (at_builtin; refine append_copy rfl _ _ 28 rfl cellL 4 cellL_len (by decide) cellL_one 59 i1 (.agg #[.bool false, .int .i64 0, .int .i64 0, .int .i64 0]) 32 Try.underlying28 hi1 hz10 hz11 hz12 rfl (by decide) (w.heap.size + 2) (w.heap.size + 2) rfl (by rw [← HWA.out]; exact HA.out.2.2.1) (Nat.le_refl _) (.slice o1 n c1) rfl m.h.cells (by rw [← HWA.out]; exact HIA.out) (by have := HN.out; omega) ?_; intro v2 w2 hO2 hg2 _; rw [← HWA.out] at hg2; obtain ⟨o5, c5, hv5⟩ := own_formX hO2; subst hv5; have hX2 := HA.out.1.grown hg2 (by intro e; injection e; omega)) | (refine store_at rfl 28 _ _ rfl rfl w.heap.size 1 _ rfl rfl size_slcell rfl 30 _ hX2 (show 1 < 4 by omega) ?_; intro w3 hX3 hg3 hs3))
  go_cut [8] (fun x wx => x = .pointer (some ⟨w.heap.size + 1, 0, none⟩) ∧ ∃ g cg, SeI m (setCl m.h.cells k second b) w n o2 o3 c2 c3 g cg (.slice none 0 0) [] wx)
  case first =>
    obtain ⟨g, hgo⟩ : ∃ g, o5 = some ⟨g, 0, none⟩ := by
      rcases hO2.2 with ⟨_, e⟩ | ⟨g, cap, cur, e, _⟩
      · have := HN.out; omega
      · injection e with e; exact ⟨g, e⟩
    subst hgo
    have hgb := hO2.lt g rfl
    have hO3 : w3.ownsRow (w.heap.size + 2) 59 4 (.slice (some ⟨g, 0, none⟩) m.h.cells.length c5) m.h.cells.length (m.h.cells.flatMap cellL) := hO2.kept hg3 (.inr (fun e => by simp only [Value.ownBlock] at e; injection e with e; omega))
    have hX3' : RowAt w3 w.heap.size 30 #[.int .i64 m.h.old, .slice (some ⟨g, 0, none⟩) m.h.cells.length c5, .slice o2 m.h.roots.length c2, .slice o3 m.noted.length c3] := hX3
    have hZ3 := (HA.out.2.1.grown hg2 (by intro e; injection e; omega)).grown hg3 (by intro e; injection e; omega)
    have hB3 := (HA.out.2.2.2.grown hg2 (by omega) (fun j e => by cases e; omega)).grown hg3 (by have := hg2.size; omega) (fun j e => by cases e; omega)
    have s1 : w3.cell? ⟨w.heap.size, 1, none⟩ = some (.slice (some ⟨g, 0, none⟩) m.h.cells.length c5) := by rw [cell_of_row _ _ _ _ _ _ hX3']; rfl
    have hkm : (k : Int) < (m.h.cells.length : Int) := by have := HN.out; omega
    have hsz3 : w.heap.size + 2 ≤ w3.heap.size := by have := hg2.size; omega
    have H3 := hideT' (And.intro hX3' (And.intro hZ3 (And.intro hB3 hO3)))
    have HFIN : Hid (∀ w4, w4.ownsRow (w.heap.size + 2) 59 4 (.slice (some ⟨g, 0, none⟩) m.h.cells.length c5) m.h.cells.length ((setCl m.h.cells k second b).flatMap cellL) → w3.grownBy w4 (some g) → SeI m (setCl m.h.cells k second b) w n o2 o3 c2 c3 g c5 (.slice none 0 0) [] w4) := by
      intro w4 h4 hg4
      have hs4 := hg4.size
      obtain ⟨q1, q2, q3, _⟩ := H3.out
      rw [← HN.out] at q1 h4
      refine ⟨⟨q1.grown hg4 (by intro e; injection e; omega), q2.grown hg4 (by intro e; injection e; omega)⟩, ⟨?_, World.ownsRow_nil _ _ _ _⟩, q3.grown hg4 (by omega) (fun j e => by cases e; omega), by omega⟩
      unfold OwnR
      rw [HLC.out]; exact h4
    clear hX3 hX3' hZ3 hB3 hO3 hO2 hX2 hg2 hg3 f1
    cases second with
    | true =>
      go_wp2_with (refine store_ownc rfl 3 _ _ rfl rfl g (k * 4 + 3) (.int .i64 b) rfl rfl size1_int rfl H3.out.2.2.2 (by omega) ?_; intro w4 hw4 hg4 hs4)
      go_meet
      case rel => exact ⟨rfl, g, c5, HFIN.out w4 (by rw [← HFL.out]; exact hw4) hg4⟩
    | false =>
      go_wp2_with (refine store_ownc rfl 3 _ _ rfl rfl g (k * 4 + 2) (.int .i64 b) rfl rfl size1_int rfl H3.out.2.2.2 (by omega) ?_; intro w4 hw4 hg4 hs4)
      go_meet
      case rel => exact ⟨rfl, g, c5, HFIN.out w4 (by rw [← HFL.out]; exact hw4) hg4⟩
  case rest =>
    obtain ⟨rfl, g, cg, hS⟩ := hcut
    obtain ⟨CS, hCS⟩ : ∃ CS, CS = setCl m.h.cells k second b := ⟨_, rfl⟩
    rw [← hCS] at hS HSM HLC
    obtain ⟨PUT, hPUT⟩ : ∃ PUT, PUT = putS m (k : Int) b := ⟨_, rfl⟩
    rw [← hPUT] at HSM
    have HS := hideT' hS
    have f0 : wc.cell? ⟨w.heap.size, 0, none⟩ = some (.int .i64 m.h.old) := by rw [cell_of_row _ _ _ _ _ _ hS.1.1]; rfl
    have f3 : wc.cell? ⟨w.heap.size, 3, none⟩ = some (.slice o3 m.noted.length c3) := by rw [cell_of_row _ _ _ _ _ _ hS.1.1]; rfl
    have HHAS := hideT' (lcHasY_any m.noted _ (k : Int) wc (HM.out.below hS.2.2.1).2 (by omega))
    clear hS f1
    go_upto_region 6 with fail
    go_cut [10] (fun x wx => x = .bool PUT ∧ wx = wc)
    case first =>
      by_cases p1 : (k : Int) < m.h.old
      · by_cases p2 : m.h.old ≤ b
        · have hp : PUT = !decide ((k : Int) ∈ m.noted) := by rw [hPUT]; unfold putS; rw [decide_eq_true p1, decide_eq_true p2]; rfl
          obtain ⟨q, hq⟩ : ∃ q, q = decide ((k : Int) ∈ m.noted) := ⟨_, rfl⟩
          rw [← hq] at hp HHAS
          have HP := hideT' hp
          clear hp hq hPUT
          go_wp2_with fail
          refine HHAS.out.mono ?_
          rintro e w' ⟨rfl, rfl⟩
          cases q with
          | true =>
            go_wp2
            go_meet
            case rel => exact ⟨by rw [HP.out]; rfl, rfl⟩
          | false =>
            go_wp2
            go_meet
            case rel => exact ⟨by rw [HP.out]; rfl, rfl⟩
        · have HP : Hid (PUT = false) := by unfold Hid; rw [hPUT]; unfold putS; rw [decide_eq_false p2]; simp
          clear hPUT
          go_wp2
          go_meet
          case rel => exact ⟨by rw [HP.out], rfl⟩
      · have HP : Hid (PUT = false) := by unfold Hid; rw [hPUT]; unfold putS; rw [decide_eq_false p1]; simp
        clear hPUT
        go_wp2
        go_meet
        case rel => exact ⟨by rw [HP.out], rfl⟩
    case rest =>
      obtain ⟨rfl, rfl⟩ := hcut
      have hpl : (putL (k : Int) PUT m.noted).length ≤ 201 := by have := putL_len (k : Int) PUT m.noted; omega
      obtain ⟨PL, hPL⟩ : ∃ PL, PL = putL (k : Int) PUT m.noted := ⟨_, rfl⟩
      rw [← hPL] at hpl HSM
      have HPL := hideT' hPL
      clear hPL f0 hPUT
      go_wp2_with fail
      go_loopg [9, 10, 51] m.noted.length (fun gg v p i wr => ∃ (j : Nat) (q : Bool) (out : List Int), gg = m.noted.length - j ∧ j ≤ m.noted.length ∧ i = .int .i64 (j : Int) ∧ p = .bool q ∧ Hid (PL = out ++ putL (k : Int) q (m.noted.drop j)) ∧ SeI m CS w n o2 o3 c2 c3 g cg v out wr)
      case atStart => exact ⟨0, PUT, [], rfl, by omega, by go_num, rfl, by unfold Hid; rw [HPL.out]; rfl, HS.out⟩
      case round =>
        obtain ⟨j, q, out, hg5, hj, rfl, rfl, HJ, hS⟩ := hrel
        obtain ⟨o9, c9, hv9⟩ := own_formX hS.2.1.2
        subst hv9
        have hsz9 := hS.2.2.2
        have hol : out.length ≤ 201 := by have := congrArg List.length HJ.out; rw [List.length_append] at this; omega
        have HSS := hideT' hS
        by_cases hlt : (j : Int) < (m.noted.length : Int)
        · have hj' : j < m.noted.length := by omega
          have hdr := take_drop_putL (k : Int) q m.noted hj'
          obtain ⟨o', cap', ee, hin⟩ := (HM.out.below hS.2.2.1).2
          cases ee
          obtain ⟨g3, rfl, hgl, hcl2⟩ := hin (by intro e; rw [e] at hj'; simp at hj')
          obtain ⟨x, hx⟩ : ∃ x, x = m.noted.getD j default := ⟨_, rfl⟩
          have hcell : wr.cell? ⟨g3, j, none⟩ = some (.int .i64 x) := by
            have := hcl2 j 0 (.int .i64 (m.noted.getD j default)) hj' rfl
            rwa [Nat.mul_one, Nat.add_zero, ← hx] at this
          rw [← hx] at hdr
          clear hin hcl2 hx hS HHAS
          cases q with
          | true =>
            by_cases hkx : (k : Int) < x
            · have HD : Hid (PL = (out ++ [(k : Int)]) ++ [x] ++ putL (k : Int) false (m.noted.drop (j + 1))) := by
                unfold Hid; rw [HJ.out, hdr, if_pos (by rw [Bool.true_and]; exact decide_eq_true hkx)]; simp
              have hol2 : out.length ≤ 199 := by have := congrArg List.length HD.out; simp only [List.length_append, List.length_singleton] at this; omega
              clear hdr
              go_wp2_with (first | (at_builtin; refine append_own3 _ rfl _ _ 23 rfl (w.heap.size + 2) 3 i2 (.int .i64 0) 1 8 Try.underlying23 hi2 hz20 hz21 hz22 rfl (by decide) _ _ _ rfl (HSS.out.2.1.2.alloc _) ⟨wr.heap.size, 0, none⟩ 1 1 [.int .i64 (k : Int)] rfl rfl (cell_one_new _ _ _) (oneX_cell _) (by decide) (by unfold maxLen; omega) (by omega) (by rw [World.size_alloc]; omega) ?_; intro v6 w6 hown6 hg6 _; have hS6 := SeI.add HSS.out (k : Int) _ hown6 hg6; obtain ⟨o6, c6, hv6⟩ := own_formX hS6.2.1.2; subst hv6; have hl6 : (out ++ [(k : Int)]).length = out.length + 1 := (by simp); rw [show (out ++ [(k : Int)]).length = out.length + 1 by simp] at hS6; have hsz6 := hS6.2.2.2) | (at_builtin; refine append_own3 _ rfl _ _ 23 rfl (w.heap.size + 2) 3 i2 (.int .i64 0) 1 8 Try.underlying23 hi2 hz20 hz21 hz22 rfl (by decide) _ _ _ rfl (hS6.2.1.2.alloc _) ⟨w6.heap.size, 0, none⟩ 1 1 [.int .i64 x] rfl rfl (cell_one_new _ _ _) (oneX_cell _) (by decide) (by unfold maxLen; omega) (by omega) (by rw [World.size_alloc]; omega) ?_; intro v7 w7 hown7 hg7 _; have hS7 := SeI.add hS6 x _ hown7 hg7; obtain ⟨o7, c7, hv7⟩ := own_formX hS7.2.1.2; subst hv7; rw [show (out ++ [(k : Int)] ++ [x]).length = out.length + 1 + 1 by simp] at hS7; have hsz7 := hS7.2.2.2))
              go_roundg (m.noted.length - (j + 1))
              case measure => omega
              case rel => exact ⟨j + 1, false, _, rfl, by omega, by go_num, rfl, HD, hS7⟩
            · have HD : Hid (PL = (out ++ [x]) ++ putL (k : Int) true (m.noted.drop (j + 1))) := by
                unfold Hid; rw [HJ.out, hdr, if_neg (by rw [Bool.true_and, decide_eq_false hkx]; simp)]; simp
              clear hdr
              go_wp2_with (first | (at_builtin; refine append_own3 _ rfl _ _ 23 rfl (w.heap.size + 2) 3 i2 (.int .i64 0) 1 8 Try.underlying23 hi2 hz20 hz21 hz22 rfl (by decide) _ _ _ rfl (HSS.out.2.1.2.alloc _) ⟨wr.heap.size, 0, none⟩ 1 1 [.int .i64 x] rfl rfl (cell_one_new _ _ _) (oneX_cell _) (by decide) (by unfold maxLen; omega) (by omega) (by rw [World.size_alloc]; omega) ?_; intro v6 w6 hown6 hg6 _; have hS6 := SeI.add HSS.out x _ hown6 hg6; obtain ⟨o6, c6, hv6⟩ := own_formX hS6.2.1.2; subst hv6; rw [show (out ++ [x]).length = out.length + 1 by simp] at hS6; have hsz6 := hS6.2.2.2))
              go_roundg (m.noted.length - (j + 1))
              case measure => omega
              case rel => exact ⟨j + 1, true, _, rfl, by omega, by go_num, rfl, HD, hS6⟩
          | false =>
            have HD : Hid (PL = (out ++ [x]) ++ putL (k : Int) false (m.noted.drop (j + 1))) := by
              unfold Hid; rw [HJ.out, hdr, if_neg (by simp)]; simp
            clear hdr
            go_wp2_with (first | (at_builtin; refine append_own3 _ rfl _ _ 23 rfl (w.heap.size + 2) 3 i2 (.int .i64 0) 1 8 Try.underlying23 hi2 hz20 hz21 hz22 rfl (by decide) _ _ _ rfl (HSS.out.2.1.2.alloc _) ⟨wr.heap.size, 0, none⟩ 1 1 [.int .i64 x] rfl rfl (cell_one_new _ _ _) (oneX_cell _) (by decide) (by unfold maxLen; omega) (by omega) (by rw [World.size_alloc]; omega) ?_; intro v6 w6 hown6 hg6 _; have hS6 := SeI.add HSS.out x _ hown6 hg6; obtain ⟨o6, c6, hv6⟩ := own_formX hS6.2.1.2; subst hv6; rw [show (out ++ [x]).length = out.length + 1 by simp] at hS6; have hsz6 := hS6.2.2.2))
            go_roundg (m.noted.length - (j + 1))
            case measure => omega
            case rel => exact ⟨j + 1, false, _, rfl, by omega, by go_num, rfl, HD, hS6⟩
        · have hjn : j = m.noted.length := by omega
          have HD : Hid (PL = out ++ (if q then [(k : Int)] else [])) := by unfold Hid; rw [HJ.out, hjn, List.drop_length]; rfl
          clear hjn hS HHAS f3
          go_upto_if 70 with fail
          go_cut [9] (fun x wx => ∃ o cc, x = .slice o PL.length cc ∧ SeI m CS w n o2 o3 c2 c3 g cg (.slice o PL.length cc) PL wx)
          case first =>
            cases q with
            | true =>
              have HE : Hid (PL = out ++ [(k : Int)]) := HD.out
              have hol2 : out.length ≤ 200 := by have := congrArg List.length HE.out; simp only [List.length_append, List.length_singleton] at this; omega
              go_wp2_with (first | (at_builtin; refine append_own3 _ rfl _ _ 23 rfl (w.heap.size + 2) 3 i2 (.int .i64 0) 1 8 Try.underlying23 hi2 hz20 hz21 hz22 rfl (by decide) _ _ _ rfl (HSS.out.2.1.2.alloc _) ⟨wr.heap.size, 0, none⟩ 1 1 [.int .i64 (k : Int)] rfl rfl (cell_one_new _ _ _) (oneX_cell _) (by decide) (by unfold maxLen; omega) (by omega) (by rw [World.size_alloc]; omega) ?_; intro v6 w6 hown6 hg6 _; have hS6 := SeI.add HSS.out (k : Int) _ hown6 hg6; obtain ⟨o6, c6, hv6⟩ := own_formX hS6.2.1.2; subst hv6; rw [show (out ++ [(k : Int)]).length = out.length + 1 by simp] at hS6; have hsz6 := hS6.2.2.2))
              go_meet
              case rel =>
                have hlen : PL.length = out.length + 1 := by rw [HE.out]; simp
                rw [← HE.out, ← hlen] at hS6
                exact ⟨o6, c6, by rw [hlen], hS6⟩
            | false =>
              have HE : Hid (PL = out) := by unfold Hid; rw [HD.out]; simp
              go_wp2
              go_meet
              case rel => exact ⟨o9, c9, by rw [HE.out], by rw [HE.out]; exact HSS.out⟩
          case rest =>
            obtain ⟨o8, c8, rfl, hS⟩ := hcut
            clear HSS HJ HD
            have f2 : wc.cell? ⟨w.heap.size, 2, none⟩ = some (.slice o2 m.h.roots.length c2) := by rw [cell_of_row _ _ _ _ _ _ hS.1.1]; rfl
            have hw2 : w.heap.size + 2 ≤ wc.heap.size := hS.2.2.2
            have hw1 : w.heap.size < wc.heap.size := by omega
            have HSS := hideT' hS
            have hR1 := hS.1.1
            clear hS
            go_wp2_with (first | (refine store_at rfl 23 _ _ rfl rfl w.heap.size 3 (.slice o8 PL.length c8) rfl rfl size_ints rfl 30 _ hR1 (show 3 < 4 by omega) ?_; intro w1 hX1 hg1 hs1; have hX1' : RowAt w1 w.heap.size 30 #[.int .i64 m.h.old, .slice (some ⟨g, 0, none⟩) n cg, .slice o2 m.h.roots.length c2, .slice o8 PL.length c8] := hX1; have f2a : World.cell? (w1.alloc (.cells #[] 3)) ⟨w.heap.size, 2, none⟩ = some (.slice o2 m.h.roots.length c2) := (by rw [cell_of_row _ _ _ _ _ _ (hX1'.old _)]; rfl); have hB1 : Below w.heap.size w w1 := HSS.out.2.2.1.grown hg1 (by omega) (fun j e => by cases e; omega)) | (at_builtin; refine append_copy rfl _ _ 23 rfl intL 1 intL_len (by decide) intL_one 3 i2 (.int .i64 0) 8 Try.underlying23 hi2 hz20 hz21 hz22 rfl (by decide) wc.heap.size wc.heap.size rfl (by have h := RowAt.new w1 3 #[]; rw [hs1] at h; exact h) (Nat.le_refl _) (.slice o2 m.h.roots.length c2) rfl m.h.roots ((HM.out.below (hB1.alloc hB1.size _)).1.2) (by omega) ?_; intro v2 w2 hO2 hg2 _; obtain ⟨o5, c5, hv5⟩ := own_formX hO2; subst hv5; have hX2 := (hX1'.old (.cells #[] 3)).grown hg2 (by intro e; injection e; omega); have hsz2 := hg2.size) | (refine store_at rfl 23 _ _ rfl rfl w.heap.size 2 (.slice o5 m.h.roots.length c5) rfl rfl size_ints rfl 30 _ hX2 (show 2 < 4 by omega) ?_; intro w3 hX3 hg3 hs3; have hX3' : RowAt w3 w.heap.size 30 #[.int .i64 m.h.old, .slice (some ⟨g, 0, none⟩) n cg, .slice o5 m.h.roots.length c5, .slice o8 PL.length c8] := hX3; have d0 : w3.cell? ⟨w.heap.size, 0, none⟩ = some (.int .i64 m.h.old) := (by rw [cell_of_row _ _ _ _ _ _ hX3']; rfl); have d1 : w3.cell? ⟨w.heap.size, 1, none⟩ = some (.slice (some ⟨g, 0, none⟩) n cg) := (by rw [cell_of_row _ _ _ _ _ _ hX3']; rfl); have d2 : w3.cell? ⟨w.heap.size, 2, none⟩ = some (.slice o5 m.h.roots.length c5) := (by rw [cell_of_row _ _ _ _ _ _ hX3']; rfl); have d3 : w3.cell? ⟨w.heap.size, 3, none⟩ = some (.slice o8 PL.length c8) := (by rw [cell_of_row _ _ _ _ _ _ hX3']; rfl); have hZ3 := (((HSS.out.1.2.grown hg1 (by intro e; injection e; omega)).old (.cells #[] 3)).grown hg2 (by intro e; injection e; omega)).grown hg3 (by intro e; injection e; omega)) | (refine store_4 rfl 30 _ _ rfl rfl zero_yg.2 (w.heap.size + 1) #[.int .i64 m.h.old, .slice (some ⟨g, 0, none⟩) n cg, .slice o5 m.h.roots.length c5, .slice o8 PL.length c8] rfl (yg_one _ _ _ _ _ _ _ _ _ _) rfl rfl _ rfl hZ3 ?_; intro w4 hR4 hg4 hs4))
            obtain ⟨_, ⟨hO1, hO3⟩, _, _⟩ := HSS.out
            have hB2 : Below w.heap.size w w2 := (hB1.alloc hB1.size (.cells #[] 3)).grown hg2 (by rw [World.size_alloc]; omega) (fun j e => by cases e; omega)
            have hz2 := hB2.size
            have hB4 := (hB2.grown hg3 hB2.size (fun j e => by cases e; exact Nat.le_refl _)).grown hg4 (by omega) (fun j e => by cases e; omega)
            have hb5 : ∀ gg, (Value.slice o5 m.h.roots.length c5).ownBlock = some gg → wc.heap.size ≤ gg := fun gg e => (hO2.lt gg e).1
            have hb8 : ∀ gg, (Value.slice o8 PL.length c8).ownBlock = some gg → w.heap.size + 2 ≤ gg ∧ gg < wc.heap.size := fun gg e => hO3.lt gg e
            have hgb := hO1.lt g rfl
            have step : ∀ {T : TypeId} {s nn : Nat} {v : Value} {xs : List Value}, wc.ownsRow (w.heap.size + 2) T s v nn xs → (∀ gg, v.ownBlock = some gg → w.heap.size + 2 ≤ gg ∧ gg < wc.heap.size) → w4.ownsRow (w.heap.size + 2) T s v nn xs := fun {T s nn v xs} h hb =>
              ((((h.kept hg1 (.inr (fun e => by have := hb _ e; omega))).alloc (.cells #[] 3)).kept hg2 (.inr (fun e => by have := hb _ e; omega))).kept hg3 (.inr (fun e => by have := hb _ e; omega))).kept hg4 (.inr (fun e => by have := hb _ e; omega))
            have hF1 : OwnR w4 w.heap.size (.slice (some ⟨g, 0, none⟩) n cg) 59 cellL 4 CS := own_baseX (step hO1 (fun gg e => hO1.lt gg e)) (by omega)
            have hF3 : OwnR w4 w.heap.size (.slice o8 PL.length c8) 3 intL 1 PL := own_baseX (step hO3 hb8) (by omega)
            have hF2 : OwnR w4 w.heap.size (.slice o5 m.h.roots.length c5) 3 intL 1 m.h.roots := own_baseX ((hO2.kept hg3 (.inr (fun e => by have := hb5 _ e; omega))).kept hg4 (.inr (fun e => by have := hb5 _ e; omega))) (by omega)
            refine bodyPost_ret (v := .agg #[.int .i64 m.h.old, .slice (some ⟨g, 0, none⟩) n cg, .slice o5 m.h.roots.length c5, .slice o8 PL.length c8]) (results_cell_row Try.results64 _ _ (w.heap.size + 1) 30 _ (0, 0) _ rfl hR4 Try.underlying30 rfl zero_yg.2) rfl ⟨⟨_, _, _, rfl, ?_⟩, hB4⟩
            rw [HSM.out]
            exact ⟨⟨⟨hF1, hF2⟩, hF3⟩, fun gg e e' => by have := hb5 gg e; have := hb8 gg e'; omega⟩

set_option maxRecDepth 100000 in
set_option maxHeartbeats 4000000 in
theorem specSetPart_any (m : Yg) (x1 : Int) (x2 : Bool) (x3 : Int) (o1 o2 o3 : Option Addr) (c1 c2 c3 : Nat) (w : World) (hs : YgSmall m 1048576) (hM : YgRd w (.slice o1 m.h.cells.length c1) (.slice o2 m.h.roots.length c2) (.slice o3 m.noted.length c3) m) :
    Calls Try.prog 28 #[.agg #[.int .i64 m.h.old, .slice o1 m.h.cells.length c1, .slice o2 m.h.roots.length c2, .slice o3 m.noted.length c3], .int .i64 x1, .bool x2, .int .i64 x3] w fun e w' => YgAns (setOut m x1 x2 x3) (ygOk m && canS m.h x1 x3) w e w' := by
  have hz := zero_yg.1
  obtain ⟨wA, hwA⟩ : ∃ wA, wA = (w.alloc (.cells #[.int .i64 m.h.old, .slice o1 m.h.cells.length c1, .slice o2 m.h.roots.length c2, .slice o3 m.noted.length c3] 30)).alloc (.cells #[.int .i64 0, .slice none 0 0, .slice none 0 0, .slice none 0 0] 30) := ⟨_, rfl⟩
  have hBA : Below w.heap.size w wA := by rw [hwA]; exact ((Below.refl _ w).alloc (Nat.le_refl _) _).alloc (by simp) _
  have hsA : wA.heap.size = w.heap.size + 2 := by rw [hwA]; simp
  have hRA : RowAt wA w.heap.size 30 #[.int .i64 m.h.old, .slice o1 m.h.cells.length c1, .slice o2 m.h.roots.length c2, .slice o3 m.noted.length c3] := by rw [hwA]; exact RowAt.old (RowAt.new _ _ _) _
  have hXA : RowAt wA (w.heap.size + 1) 30 #[.int .i64 0, .slice none 0 0, .slice none 0 0, .slice none 0 0] := by
    rw [hwA]
    have := RowAt.new (w.alloc (.cells #[.int .i64 m.h.old, .slice o1 m.h.cells.length c1, .slice o2 m.h.roots.length c2, .slice o3 m.noted.length c3] 30)) 30 #[.int .i64 0, .slice none 0 0, .slice none 0 0, .slice none 0 0]
    rwa [World.size_alloc] at this
  have HG := hideT' (specGoodYoung_any m _ _ _ wA hs hs.2 (hM.below hBA))
  have HM := hideT' hM
  have HA := hideT' (And.intro hRA (And.intro hXA hBA))
  have HWA := hideT' hwA
  clear hM hRA hXA hBA hwA hs
  have HNO : Hid ((ygOk m && canS m.h x1 x3) = false → ∀ w1, RowAt w1 (w.heap.size + 1) 30 #[.int .i64 0, .slice none 0 0, .slice none 0 0, .slice none 0 0] → Below w.heap.size w w1 → (∃ v1 v2 v3, Ending.returned (.tuple #[.agg #[.int .i64 0, .slice none 0 0, .slice none 0 0, .slice none 0 0], .bool false]) = .returned (.tuple #[.agg #[.int .i64 (setOut m x1 x2 x3).h.old, v1, v2, v3], .bool (ygOk m && canS m.h x1 x3)]) ∧ YgO w1 w.heap.size v1 v2 v3 (setOut m x1 x2 x3))) := fun hn w1 _ _ => by
    rw [setOut_no _ _ _ hn, hn]
    exact ⟨_, _, _, rfl, YgO.nil _ _ _⟩
  go_enter Try.func28, Try.ntmps28
  go_wp2_with fail
  rw [← HWA.out]
  refine HG.out.mono ?_
  rintro e w1 ⟨rfl, hB1⟩
  have hR1 := HA.out.1.below hB1 (by omega)
  have hX1 := HA.out.2.1.below hB1 (by omega)
  have hBw1 := HA.out.2.2.trans (hB1.mono (by omega))
  have hs1 := hB1.size
  obtain ⟨q, hq⟩ : ∃ q, q = ygOk m := ⟨_, rfl⟩
  rw [← hq]
  have HQ := hideT' hq
  have e0 : w1.cell? ⟨w.heap.size, 0, none⟩ = some (.int .i64 m.h.old) := by rw [cell_of_row _ _ _ _ _ _ hR1]; rfl
  have e1 : w1.cell? ⟨w.heap.size, 1, none⟩ = some (.slice o1 m.h.cells.length c1) := by rw [cell_of_row _ _ _ _ _ _ hR1]; rfl
  have e2 : w1.cell? ⟨w.heap.size, 2, none⟩ = some (.slice o2 m.h.roots.length c2) := by rw [cell_of_row _ _ _ _ _ _ hR1]; rfl
  have e3 : w1.cell? ⟨w.heap.size, 3, none⟩ = some (.slice o3 m.noted.length c3) := by rw [cell_of_row _ _ _ _ _ _ hR1]; rfl
  have HX := hideT' (And.intro hX1 hBw1)
  clear hq hB1 hR1 hX1 hBw1
  cases q with
  | false =>
    have HNO1 : Hid ((ygOk m && canS m.h x1 x3) = false) := by unfold Hid; rw [← HQ.out]; rfl
    have hX1 := HX.out.1
    go_wp2_with (refine store_4 rfl 30 _ _ rfl rfl zero_yg.2 (w.heap.size + 1) #[.int .i64 0, .slice none 0 0, .slice none 0 0, .slice none 0 0] rfl (yg_one _ _ _ _ _ _ _ _ _ _) rfl rfl _ rfl hX1 ?_; intro w2 hR2 hg2 hs2)
    have hB2 := HX.out.2.grown hg2 HX.out.2.size (fun k e => by cases e; omega)
    exact bodyPost_ret (v := .tuple #[.agg #[.int .i64 0, .slice none 0 0, .slice none 0 0, .slice none 0 0], .bool false]) (res_young8 Try.results28 rfl rfl hR2) rfl ⟨HNO.out HNO1.out _ hR2 hB2, hB2⟩
  | true =>
  have hok : ygOk m = true := HQ.out.symm
  obtain ⟨hl1, hl2, hold, _, _⟩ := sndOk_all (ygOk_snd hok)
  have HOLD := hideT' hold
  obtain ⟨n, hn⟩ : ∃ n, n = m.h.cells.length := ⟨_, rfl⟩
  have HN := hideT' hn
  rw [← hn] at hl1 e1 ⊢
  have HOK := hideT' hok
  have HCS : Hid (canS m.h x1 x3 = ((decide (0 ≤ x1) && decide (x1 ≤ (n : Int) - 1)) && ((decide (0 ≤ x3) && decide (x3 ≤ (n : Int) - 1)) && !(m.h.cells.getD x1.toNat default).1))) := by unfold Hid canS rootOk; rw [hn]
  have HIN : Hid (InR w1 (.slice o1 n c1) cellL 4 m.h.cells) := by have := (HM.out.below HX.out.2).1.1; unfold Hid; rw [hn]; exact this
  clear hn hok hold
  have HL1 := hideT' (l1In_any x1 0 ((n : Int) - 1) w1)
  have HL3 := hideT' (l1In_any x3 0 ((n : Int) - 1) w1)
  obtain ⟨qa, hqa⟩ : ∃ q, q = (decide (0 ≤ x1) && decide (x1 ≤ (n : Int) - 1)) := ⟨_, rfl⟩
  obtain ⟨qb, hqb⟩ : ∃ q, q = (decide (0 ≤ x3) && decide (x3 ≤ (n : Int) - 1)) := ⟨_, rfl⟩
  rw [← hqa] at HL1 HCS
  rw [← hqb] at HL3 HCS
  have HQA := hideT' hqa
  clear hqa hqb
  go_wp2_with fail
  refine HL1.out.mono ?_
  rintro e w' ⟨rfl, rfl⟩
  cases qa with
  | false =>
    have HNO1 : Hid ((ygOk m && canS m.h x1 x3) = false) := by unfold Hid; rw [HCS.out, ← HQ.out]; rfl
    have hX1 := HX.out.1
    go_wp2_with (refine store_4 rfl 30 _ _ rfl rfl zero_yg.2 (w.heap.size + 1) #[.int .i64 0, .slice none 0 0, .slice none 0 0, .slice none 0 0] rfl (yg_one _ _ _ _ _ _ _ _ _ _) rfl rfl _ rfl hX1 ?_; intro w2 hR2 hg2 hs2)
    have hB2 := HX.out.2.grown hg2 HX.out.2.size (fun k e => by cases e; omega)
    exact bodyPost_ret (v := .tuple #[.agg #[.int .i64 0, .slice none 0 0, .slice none 0 0, .slice none 0 0], .bool false]) (res_young8 Try.results28 rfl rfl hR2) rfl ⟨HNO.out HNO1.out _ hR2 hB2, hB2⟩
  | true =>
  go_wp2_with fail
  refine HL3.out.mono ?_
  rintro e w'' ⟨rfl, rfl⟩
  have hak : ∃ k : Nat, x1 = (k : Int) ∧ k < n := by
    have := HQA.out.symm
    rw [Bool.and_eq_true, decide_eq_true_eq, decide_eq_true_eq] at this
    exact ⟨x1.toNat, by omega, by omega⟩
  obtain ⟨k, rfl, hkn⟩ := hak
  have hkn' : (k : Int) < (n : Int) := by omega
  cases qb with
  | false =>
    have HNO1 : Hid ((ygOk m && canS m.h (k : Int) x3) = false) := by unfold Hid; rw [HCS.out, ← HQ.out]; rfl
    have hX1 := HX.out.1
    go_wp2_with (refine store_4 rfl 30 _ _ rfl rfl zero_yg.2 (w.heap.size + 1) #[.int .i64 0, .slice none 0 0, .slice none 0 0, .slice none 0 0] rfl (yg_one _ _ _ _ _ _ _ _ _ _) rfl rfl _ rfl hX1 ?_; intro w2 hR2 hg2 hs2)
    have hB2 := HX.out.2.grown hg2 HX.out.2.size (fun k e => by cases e; omega)
    exact bodyPost_ret (v := .tuple #[.agg #[.int .i64 0, .slice none 0 0, .slice none 0 0, .slice none 0 0], .bool false]) (res_young8 Try.results28 rfl rfl hR2) rfl ⟨HNO.out HNO1.out _ hR2 hB2, hB2⟩
  | true =>
  obtain ⟨d, hd⟩ : ∃ d, d = m.h.cells.getD k default := ⟨_, rfl⟩
  have hM1 : InR w'' (.slice o1 m.h.cells.length c1) cellL 4 m.h.cells := by rw [← HN.out]; exact HIN.out
  obtain ⟨lf, kk, aa, cc⟩ := d
  obtain ⟨g1, hgo, q0, q1, q2, q3⟩ := hM1.cells4 (show k < m.h.cells.length by have := HN.out; omega) hd
  subst hgo
  have HCS2 : Hid (canS m.h (k : Int) x3 = !lf) := by unfold Hid; rw [HCS.out, Int.toNat_natCast, ← hd]; rfl
  clear hM1 hd q1 q2 q3
  cases lf with
  | true =>
    have HNO1 : Hid ((ygOk m && canS m.h (k : Int) x3) = false) := by unfold Hid; rw [HCS2.out, ← HQ.out]; rfl
    have hX1 := HX.out.1
    go_wp2_with (refine store_4 rfl 30 _ _ rfl rfl zero_yg.2 (w.heap.size + 1) #[.int .i64 0, .slice none 0 0, .slice none 0 0, .slice none 0 0] rfl (yg_one _ _ _ _ _ _ _ _ _ _) rfl rfl _ rfl hX1 ?_; intro w2 hR2 hg2 hs2)
    have hB2 := HX.out.2.grown hg2 HX.out.2.size (fun k e => by cases e; omega)
    exact bodyPost_ret (v := .tuple #[.agg #[.int .i64 0, .slice none 0 0, .slice none 0 0, .slice none 0 0], .bool false]) (res_young8 Try.results28 rfl rfl hR2) rfl ⟨HNO.out HNO1.out _ hR2 hB2, hB2⟩
  | false =>
    have HOK1 : Hid ((ygOk m && canS m.h (k : Int) x3) = true) := by unfold Hid; rw [HCS2.out, ← HQ.out]; rfl
    have hl3 : m.noted.length ≤ 200 := by
      have hris : rise m.h.old 0 m.noted = true := by
        have := HOK.out
        unfold ygOk at this
        rw [Bool.and_eq_true, Bool.and_eq_true] at this
        exact this.2.1
      obtain ⟨od, hod⟩ : ∃ od : Nat, m.h.old = (od : Int) := ⟨m.h.old.toNat, by have := HOLD.out; omega⟩
      rw [hod] at hris
      have := HOLD.out
      have := HN.out
      rw [← idxI_noted m.noted od (by omega) hris]
      exact Nat.le_trans (idxI_len _ _) (by omega)
    have HC : Hid (Calls Try.prog 64 #[.agg #[.int .i64 m.h.old, .slice (some ⟨g1, 0, none⟩) n c1, .slice o2 m.h.roots.length c2, .slice o3 m.noted.length c3], .int .i64 (k : Int), .bool x2, .int .i64 x3] w'' fun e w' => (∃ u1 u2 u3, e = .returned (.agg #[.int .i64 m.h.old, u1, u2, u3]) ∧ YgO w' w''.heap.size u1 u2 u3 (setM m (k : Int) x3 x2)) ∧ Below w''.heap.size w'' w') := by
      have h := lhSet_any m (some ⟨g1, 0, none⟩) o2 o3 c1 c2 c3 (k : Int) x3 x2 w'' (by rw [← HN.out]; exact hl1) hl2 hl3 (by rw [HCS2.out]; rfl) (HM.out.below HX.out.2)
      rw [← HN.out] at h
      exact h
    have hX1 := HX.out.1
    have hkk : (0 : Int) ≤ (k : Int) := by omega
    go_wp2_with fail
    refine HC.out.mono ?_
    rintro e w4 ⟨⟨u1, u2, u3, rfl, hO⟩, hB4⟩
    have HOUT : Hid (setOut m (k : Int) x2 x3 = setM m (k : Int) x3 x2) := setOut_yes _ _ _ HOK1.out
    obtain ⟨K, hK⟩ : ∃ K, K = setM m (k : Int) x3 x2 := ⟨_, rfl⟩
    have hKo : m.h.old = K.h.old := by rw [hK]; rfl
    rw [← hK] at hO HOUT
    rw [hKo]
    obtain ⟨p1, q1, p2, q2, p3, q3, f1, f2, f3⟩ := hO.form
    subst f1 f2 f3
    have hX4 := hX1.below hB4 (by omega)
    have hB4' := HX.out.2.trans (hB4.mono HX.out.2.size)
    have HO := hideT' (And.intro hO hB4')
    clear hO hB4 hB4' hK hKo e0 e1 e2 e3 q0
    go_wp2_with (refine store_4 rfl 30 _ _ rfl rfl zero_yg.2 (w.heap.size + 1) #[.int .i64 K.h.old, .slice p1 K.h.cells.length q1, .slice p2 K.h.roots.length q2, .slice p3 K.noted.length q3] rfl (yg_one _ _ _ _ _ _ _ _ _ _) rfl rfl _ rfl hX4 ?_; intro w5 hX5 hg5 hs5)
    obtain ⟨hO, hB4'⟩ := HO.out
    refine bodyPost_ret (v := .tuple #[.agg #[.int .i64 K.h.old, .slice p1 K.h.cells.length q1, .slice p2 K.h.roots.length q2, .slice p3 K.noted.length q3], .bool true]) (res_young8 Try.results28 rfl rfl hX5) rfl ⟨⟨_, _, _, by rw [HOUT.out, HOK1.out], ?_⟩, hB4'.grown hg5 hB4'.size (fun k e => by cases e; omega)⟩
    rw [HOUT.out]
    exact (hO.kept hg5 (by omega)).base (by omega)
end Go.Proofs.Ytoaancgmahdbnaa
