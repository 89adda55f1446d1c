/-
  What redexesIn of the program answers.
-/
import Derived.Test.YtnnhedncdpfiaaaImplRed
import Derived.Maps.OwnIn
namespace Go.Proofs.Ytnnhedncdpfiaaa
open Go.RowKit Go.Shelf BL
set_option linter.unusedVariables false
attribute [local go_sem] Oper.semAt_some

/-- How a round of redexesIn begins. -/
def redAct (w : World) (b sb : Nat) (x : Spot × Nat) : Act := { tmps := #[.pointer (some ⟨b, 0, none⟩), undef, .slice none 0 0, .pointer (some ⟨w.heap.size, 0, none⟩), .pointer (some ⟨sb, 0, none⟩), .pointer (some ⟨x.2, 0, none⟩), .pointer (some ⟨b, 0, none⟩), .func (.func 87) #[] #[.pointer (some ⟨w.heap.size + 1, 0, none⟩)], .agg #[.int .i64 (x.1.at_ : Int), .int .i64 x.1.up, .int .i64 (x.1.lam : Int)], .pointer (some ⟨x.2, 0, none⟩), undef, undef, undef, undef, undef, undef, undef, undef], defers := [] }
set_option maxRecDepth 100000 in
set_option maxHeartbeats 8000000 in
theorem redexesIn_any (t : Lm) (b : Nat) (P : Nat → Prop) (w : World) (hT : TrIn w P t b) (hs : t.sz ≤ 1000000) :
    Calls Try.prog 45 #[.pointer (some ⟨b, 0, none⟩)] w fun e w' => (∃ u, e = .returned u ∧ OwnR w' w.heap.size u 3 intL 1 (natsI t.reds)) ∧ Below w.heap.size w w' := by
  refine (callsIn_wide (n := 4)).1 ?_
  have HT := hideT' hT
  clear hT
  refine callsIn_of_wp_marks Try.func45 rfl trivial ?_ rfl
  simp only [Try.ntmps45, List.size_toArray, List.length_cons, List.length_nil, Nat.reduceAdd, Nat.reduceSub, Array.replicate_succ, Array.replicate_zero, List.push_toArray, List.append_toArray, List.nil_append, List.cons_append]
  gi_wp2
  refine ⟨trivial, ?_⟩
  gi_at_call 68
  refine (callsIn_wide.2 (walk_any b _)).mono ?_
  rintro e w3 ⟨rfl, hw3⟩
  have hs3 : w3.heap.size = w.heap.size + 2 := by rw [hw3]; simp
  have hB3 : Below w.heap.size w w3 := by rw [hw3]; exact ((Below.refl _ _).alloc (Nat.le_refl _) _).alloc (by simp) _
  have hI0 : RedI w [] (fun z => z = w.heap.size) w3 := by
    refine ⟨.slice none 0 0, fun z => ?_, ?_, World.ownsRow_nil _ _ _ _, hB3⟩
    · simp [Value.ownBlock]
    · rw [hw3]; exact RowAt.old (RowAt.new _ _ _) _
  have hcx : w3.cell? ⟨w.heap.size + 1, 0, none⟩ = some (.pointer (some ⟨b, 0, none⟩)) := by
    have hr : RowAt w3 (w.heap.size + 1) 58 #[.pointer (some ⟨b, 0, none⟩)] := by
      rw [hw3]
      have := RowAt.new (w.alloc (.cells #[.slice none 0 0] 29)) 58 #[.pointer (some ⟨b, 0, none⟩)]
      rwa [World.size_alloc] at this
    rw [cell_of_row _ _ _ _ _ _ hr]; rfl
  have HI0 := hideT' hI0
  have HB3 := hideT' hB3
  have HCX := hideT' hcx
  clear hw3 hI0 hB3 hcx
  simp only [World.size_alloc]
  gi_wp2
  refine range_own (gf := 87) (lb := #[.pointer (some ⟨w.heap.size + 1, 0, none⟩)]) (by rfl) (enters_of Try.func87 (by kernel_rfl) rfl) encS (fun x => rfl) _ _ _ (walk_seq (w.heap.size + 1) t b hs)
    (fun pre x V V' W hVV h => ⟨h.1, TrIn.mono (fun z hz _ hv => hz (hVV z hv)) h.2⟩)
    (RedI w) (fun s V A h => h.lt) (fun s V A B row h hg hr => h.step hg (fun r e => ⟨(hr r e).1, by have := (hr r e).2; omega⟩)) (fun z => z = w.heap.size) HI0.out ?need
    (fun pre x V c W => ∃ sb, c = redAct w b sb x ∧ pre.length < t.sz ∧ (x.1.at_ < t.sz) ∧ RedI w pre V W ∧ RowAt W sb 106 #[.int .i64 (x.1.at_ : Int), .int .i64 x.1.up, .int .i64 (x.1.lam : Int)] ∧ ¬ V sb ∧ TrIn W (fun z => ¬ V z) x.1.t x.2) ?ax ?assign ?body ?done
  case need =>
    intro B V hg hV
    refine ⟨TrIn.keep (w := w) (P := P) (by have := hg.size; omega) (fun x _ hx => ?_) (fun x _ hx hv => ?_) HT.out, ?_⟩
    · rw [hg.block x (by omega) (by simp)]; exact HB3.out.block x hx
    · rcases hV x hv with h | h <;> omega
    · rw [World.cell?_of_block (w := w3) (a := ⟨w.heap.size + 1, 0, none⟩) (hg.block _ (by simp; omega) (by simp))]; exact HCX.out
  case ax =>
    rintro s x V c A B row ⟨sb, h1, hl, ha, h2, h3, h4, h5⟩ hg hr
    exact ⟨sb, h1, hl, ha, h2.step hg (fun r e => ⟨(hr r e).1.1, by have := (hr r e).1.2; omega⟩), TrIn.turn.row_same h3 hg (fun r e => (hr r e).2), h4, TrIn.turn hg (fun r e => (hr r e).2) h5⟩
  case assign =>
    intro l pre x V W K hNx hI hK
    have HI := hideT' hI
    have HK := hideT' hK
    have HNX := hideT' hNx
    unfold encS
    clear hI hK hNx
    gi_wp2
    have hal : Below W.heap.size W (W.alloc (.cells #[.int .i64 (x.1.at_ : Int), .int .i64 x.1.up, .int .i64 (x.1.lam : Int)] 106)) := (Below.refl _ _).alloc (Nat.le_refl _) _
    obtain ⟨⟨post, hpo⟩, hTx⟩ := HNX.out
    have hlen := congrArg List.length hpo
    rw [Lm.walk_len, List.length_append, List.length_map, List.length_cons] at hlen
    refine HK.out _ _ V ⟨W.heap.size, rfl, by omega, ?_, HI.out.step (row := none) ⟨hal.os, hal.tape, hal.output, hal.size, fun k hk _ => hal.block k hk⟩ (fun r e => by cases e), RowAt.new _ _ _, fun h => by have := HI.out.lt _ h; omega, TrIn.below hal hTx⟩ (MoreB.refl _ _) (KeepsB.below hal)
    have := (Lm.walk_sub t 0 (-1) 0 x.1 (by rw [hpo]; simp)).2.2.2.1
    omega
  case body =>
    rintro l pre x V c W ⟨sb, rfl, hpl, hat, hI, hR, hVs, hTx⟩
    unfold redAct
    obtain ⟨v, hV, hRv, hO, hB⟩ := hI
    obtain ⟨ov, cap, hvv⟩ := own_formT hO
    subst hvv
    have hls := redsOf_len pre
    have hra := redsOf_app pre x
    have hca : W.cell? ⟨sb, 0, none⟩ = some (.int .i64 (x.1.at_ : Int)) := by rw [cell_of_row _ _ _ _ _ _ hR]; rfl
    have hcv : W.cell? ⟨w.heap.size, 0, none⟩ = some (.slice ov (redsOf pre).length cap) := by rw [cell_of_row _ _ _ _ _ _ hRv]; rfl
    have HC := hideT' (isRedex_any x.1.t x.2 _ W hTx)
    obtain ⟨q, hq⟩ : ∃ q, q = x.1.t.isRed := ⟨_, rfl⟩
    rw [← hq] at HC hra
    have HV := hideT' hV
    have HRV := hideT' hRv
    have HO := hideT' hO
    have HB := hideT' hB
    have hsb := hR.lt
    have hwz := hRv.lt
    clear hV hRv hO hB hR hTx hq
    cases q with
    | false =>
      have HRA : Hid (redsOf (pre ++ [x]) = redsOf pre) := by unfold Hid; rw [hra]; simp
      clear hra
      gi_wp2
      refine ⟨trivial, ?_⟩
      gi_at_call 69
      refine (CallsIn.inRound l (callsIn_wide.2 HC.out)).mono ?_
      rintro e w4 ⟨rfl, rfl⟩
      gi_wp2
      exact ⟨V, ⟨_, HV.out, HRV.out, by rw [HRA.out]; exact HO.out, HB.out⟩, MoreB.refl _ _, KeepsB.refl _ _⟩
    | true =>
      have HRA : Hid (redsOf (pre ++ [x]) = redsOf pre ++ [(x.1.at_ : Int)]) := by unfold Hid; rw [hra]; simp
      clear hra
      obtain ⟨i0, hi, hz0, hz1, hz2⟩ := info_parts info_int
      gi_wp2
      refine ⟨trivial, ?_⟩
      gi_at_call 69
      refine (CallsIn.inRound l (callsIn_wide.2 HC.out)).mono ?_
      rintro e w4 ⟨rfl, rfl⟩
      have hwl : w.heap.size + 1 ≤ w4.heap.size := hwz
      gi_wp2_with (gi_at_builtin; refine wpListIn_append_own_at _ rfl _ _ 29 rfl (w.heap.size + 1) 3 i0 (.int .i64 0) 1 8 Try.underlying29 hi hz0 hz1 hz2 rfl (by decide) (.slice ov (redsOf pre).length cap) _ _ rfl (HO.out.alloc _) ⟨w4.heap.size, 0, none⟩ 1 1 [.int .i64 (x.1.at_ : Int)] rfl rfl (cell_one_new _ _ _) (oneT_cell _) (by unfold maxLen; omega) (by omega) (by simp; omega) ?_; intro v5 w5 hown5 hg5 _ hat5; obtain ⟨g5, cap5, rfl⟩ := ownsRow_succ hown5; have hbx5 := boxR_append (B := w.heap.size) (t := 29) HRV.out (by decide) HO.out hown5 hg5; have HBX5 := hideT' hbx5; have f5 : w5.cell? ⟨w.heap.size, 0, none⟩ = some (.slice ov (redsOf pre).length cap) := hbx5.1.cell; have fz5 : w5.frozen? ⟨w.heap.size, 0, none⟩ = false := hbx5.1.frozen; have HG5 := hideT' hg5; have HAT5 := hideT' hat5; clear hbx5 hg5 hat5)
      obtain ⟨_, q1, q2, q3, q4, q5, q6, q7, q8⟩ := HBX5.out
      have hob : ∀ z, z < w4.heap.size → ¬ V z → (w5.setCell ⟨w.heap.size, 0, none⟩ (.slice (some ⟨g5, 0, none⟩) ((redsOf pre).length + 1) cap5)).heap[z]? = w4.heap[z]? := fun z hz hv => by
        have h1 : z ≠ w.heap.size := fun e => hv ((HV.out z).2 (.inl e))
        rw [heap_setCell_other w5 ⟨w.heap.size, 0, none⟩ z _ (fun e => h1 e), HG5.out.block z (by simp; omega) (fun e => hv ((HV.out z).2 (.inr e.symm))), Below.heap_alloc _ _ _ hz]
      refine ⟨fun z => z = w.heap.size ∨ (Value.slice (some ⟨g5, 0, none⟩) ((redsOf pre).length + 1) cap5).ownBlock = some z, ⟨_, fun z => Iff.rfl, q1, ?_, ?_⟩, ?_, ⟨q4, fun z hz hv => hob z hz hv⟩⟩
      · unfold OwnR
        rw [HRA.out, List.length_append, List.length_singleton, List.flatMap_append]; exact q2
      · refine HB.out.trans ⟨q6, q7, q8, q4, fun j hj => ?_⟩
        exact hob j (by omega) (fun h => by
          rcases (HV.out j).1 h with e | e
          · omega
          · have := (HO.out.lt j e).1; omega)
      · intro z hz
        rcases hz with rfl | hz
        · exact .inl ((HV.out _).2 (.inl rfl))
        · rcases HAT5.out with h | h
          · exact .inl ((HV.out z).2 (.inr (by rw [← h]; exact hz)))
          · rw [h] at hz
            injection hz with hz
            rw [World.size_alloc] at hz
            exact .inr (by omega)
  case done =>
    rintro D ys V W hD hS ⟨v, hV, hRv, hO, hB⟩ hVD hK
    obtain ⟨ov, cap, hvv⟩ := own_formT hO
    subst hvv
    have hcv : W.cell? ⟨w.heap.size, 0, none⟩ = some (.slice ov (redsOf ys).length cap) := by rw [cell_of_row _ _ _ _ _ _ hRv]; rfl
    have HOW : Hid (W.ownsRow w.heap.size 3 1 (.slice ov (redsOf ys).length cap) (natsI t.reds).length ((natsI t.reds).flatMap intL)) := by
      unfold Hid
      rw [← redsOf_all hS]
      exact ⟨hO.1, hO.2.imp id fun ⟨g, cap, cur, h1, h2, h3⟩ => ⟨g, cap, cur, h1, by omega, h3⟩⟩
    have HW := hideT' hB
    have HKD := hideT' hK
    clear hO hB hK hRv
    gi_wp2
    refine leave_marks (v := .slice ov (redsOf ys).length cap) HKD.out (by simp [results, Try.results45, go_sem]) ⟨⟨_, rfl, ?_⟩, below_put HW.out (by omega) HW.out.size⟩
    exact ⟨HOW.out.1, HOW.out.2.imp id fun ⟨g, cap, cur, h1, h2, h3, h4⟩ => ⟨g, cap, cur, h1, h2, row_put h3 HKD.out rfl, h4⟩⟩
end Go.Proofs.Ytnnhedncdpfiaaa
