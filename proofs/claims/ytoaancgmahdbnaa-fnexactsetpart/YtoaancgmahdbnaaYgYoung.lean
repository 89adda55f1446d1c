/-
  What the program's collectLive and young leave.
-/
import Derived.Test.YtoaancgmahdbnaaYgLiveIn
namespace Go.Proofs.Ytoaancgmahdbnaa
open Go.RowKit Go.Shelf BL
set_option linter.unusedVariables false
attribute [local go_sem] Oper.semAt_some

theorem hpB_slice {hb : Nat} {v1 v2 : Value} {B : Nat} {W : World} {h : Hp} (h0 : B ≤ hb) (h1 : OwnR W B v1 59 cellL 4 h.cells) (h2 : OwnR W B v2 3 intL 1 h.roots) : ∀ k, hpBlocks hb v1 v2 k → B ≤ k := fun k hk => by
  rcases hk with e | e | e
  · omega
  · exact (h1.lt k e).1
  · exact (h2.lt k e).1

set_option maxRecDepth 100000 in
set_option maxHeartbeats 4000000 in
theorem collectLive_any (h : Hp) (nm : List Bool) (hok : sndOk h = true) (hnm : nm.length = 200) (old : Nat) (hold : old ≤ h.cells.length) (B hb : Nat) (v1 v2 : Value) (w : World) (hW : WrAt w B hb v1 v2 h nm) :
    Calls Try.prog 60 #[.pointer (some ⟨hb, 0, none⟩), .int .i64 (old : Int)] w fun e w' => e = .returned (.tuple #[]) ∧ (∃ v1', WrAt w' B hb v1' v2 (keepM h (liveM h nm old)) (List.replicate 200 false) ∧ v1'.ownBlock = v1.ownBlock) ∧ OnlyP (hpBlocks hb v1 v2) w w' := by
  obtain ⟨hR, hO1, hO2, hBh⟩ := hW
  have hbl := RowAt.lt hR
  have HL := hideT' (live_any h nm hok hnm old hold B hb v1 v2 w.drew ⟨hR, hO1, hO2, hBh⟩)
  have HW : Hid (WrAt w B hb v1 v2 h nm) := ⟨hR, hO1, hO2, hBh⟩
  have HOK := hideT' hok
  have hzm := zero_cm.1
  obtain ⟨NZ, hNZ⟩ : ∃ N, N = mkA (List.replicate 200 false) := ⟨_, rfl⟩
  rw [← hNZ] at hzm
  have HNZ := hideT' hNZ
  clear hR hO1 hO2 hok hNZ
  go_enter Try.func60, Try.ntmps60
  go_wp2_with fail
  refine held_begin (fun _ => True) (by kernel_rfl) ?_
  refine held_val 0 (some 4) rfl rfl (by kernel_rfl) (by kernel_rfl) (by kernel_rfl) noPanic_put rfl (.pointer (some ⟨hb, 0, none⟩)) (fun _ => by go_simp) trivial ?_
  simp only [Act.put, List.setIfInBounds_toArray, List.set_cons_zero, List.set_cons_succ]
  refine held_val 1 (some 5) rfl rfl (by kernel_rfl) (by kernel_rfl) (by kernel_rfl) noPanic_put rfl (.pointer (some ⟨hb, 0, none⟩)) (fun _ => by go_simp) trivial ?_
  simp only [Act.put, List.setIfInBounds_toArray, List.set_cons_zero, List.set_cons_succ]
  refine held_val 2 (some 6) rfl rfl (by kernel_rfl) (by kernel_rfl) (by kernel_rfl) noPanic_put rfl (.pointer (some ⟨hb, 0, none⟩)) (fun _ => by go_simp) trivial ?_
  simp only [Act.put, List.setIfInBounds_toArray, List.set_cons_zero, List.set_cons_succ]
  refine held_val 3 (some 7) rfl rfl (by kernel_rfl) (by kernel_rfl) (by kernel_rfl) noPanic_put rfl (.pointer (some ⟨hb, 0, none⟩)) (fun _ => by go_simp) trivial ?_
  simp only [Act.put, List.setIfInBounds_toArray, List.set_cons_zero, List.set_cons_succ]
  refine held_val 4 (some 8) rfl rfl (by kernel_rfl) (by kernel_rfl) (by kernel_rfl) noPanic_put rfl (.int .i64 (old : Int)) (fun _ => by go_simp) trivial ?_
  simp only [Act.put, List.setIfInBounds_toArray, List.set_cons_zero, List.set_cons_succ]
  refine held_call 5 (some 9) (by kernel_rfl) rfl rfl rfl 57 #[.pointer (some ⟨hb, 0, none⟩), .int .i64 (old : Int)] (by go_simp) _ HL.out ?_
  rintro e w2 ⟨⟨mb, rfl, hmb, Z, hD⟩, hB2⟩
  have hB2' : Below w.heap.size w w2 := ⟨hB2.os, hB2.tape, hB2.output, hB2.size, hB2.block⟩
  refine ⟨_, rfl, trivial, ?_⟩
  simp only [Act.put, List.setIfInBounds_toArray, List.set_cons_zero, List.set_cons_succ]
  have hms : MarksAt w2 mb 0 (liveM h nm old) := by
    intro i hi
    have := MarksAt.of_rec hD i (by rw [List.length_append]; omega)
    rw [bAt_app _ _ hi] at this
    exact this
  have hmb' : w.heap.size ≤ mb := hmb
  refine held_call 6 (some 10) (by kernel_rfl) rfl rfl rfl 82 #[.pointer (some ⟨hb, 0, none⟩), .slice (some ⟨mb, 0, none⟩) h.cells.length 200] (by go_simp) _ (keep_any h HOK.out (liveM h nm old) mb 0 200 (liveM_len _ _ _) hb 76 B (nm.flatMap boolL) v1 v2 w2 (by decide) (by decide) (HW.out.1.below hB2' hbl) (OwnR.below (l := h.cells) HW.out.2.1 hB2' (Nat.le_refl _)) (OwnR.below (l := h.roots) HW.out.2.2.1 hB2' (Nat.le_refl _)) hms (RecAt.lt hD) (fun e => by have := (HW.out.2.1.lt mb e).2; omega)) ?_
  rintro e w3 ⟨rfl, ⟨v1', hR3, hO13, hO23, hb3⟩, hP3⟩
  refine ⟨_, rfl, trivial, ?_⟩
  simp only [Act.put, List.setIfInBounds_toArray, List.set_cons_zero, List.set_cons_succ]
  refine wpAnyH_done (by kernel_rfl) ?_ _
  refine NoPanic.normal ?_
  have hP13 : OnlyP (hpBlocks hb v1 v2) w w3 := ⟨hP3.os.trans hB2'.os, hP3.tape.trans hB2'.tape, hP3.output.trans hB2'.output, Nat.le_trans hB2'.size hP3.size, fun k hk hS => by rw [hP3.block k (Nat.lt_of_lt_of_le hk hB2'.size) hS, hB2'.block k hk]⟩
  obtain ⟨K, hK⟩ : ∃ K, K = keepM h (liveM h nm old) := ⟨_, rfl⟩
  rw [← hK] at hR3 hO13 hO23
  have HKK := hideT' hK
  have H3 := hideT' (And.intro hR3 (And.intro hO13 (And.intro hO23 (And.intro hb3 hP13))))
  have hlen : (nm.flatMap boolL).length = 200 := by rw [rec_len boolL 1 boolL_len, hnm]
  have hzl : ((List.replicate 200 false).flatMap boolL).length = 200 := by rw [rec_len boolL 1 boolL_len, List.length_replicate]
  have hsz : NZ.size = 200 := by rw [HNZ.out, mkA_size, List.length_replicate]
  have hth : w3.there hb 3 NZ.size := by
    have hX : RowAt w3 hb 76 ([Value.int .i64 K.old, v1', v2] ++ nm.flatMap boolL ++ ([] : List Value)).toArray := by simpa using H3.out.1
    have := RowAt.there hX
    rw [hlen] at this
    rw [hsz]
    exact this
  have hi66 : (Try.prog.info? 66).map (·.size) = some NZ.size := by rw [hsz]; exact zero_cm.2
  have hone : NZ.all (·.oneCell') = true := by rw [HNZ.out]; exact mkA_one _
  clear hR3 hO13 hO23 hb3 hP13 hP3 hms hD hB2 hB2' hK
  go_wp2_with (refine wpList_store_mid rfl 66 _ _ rfl hb 3 NZ rfl rfl hth hi66 hone ?_)
  have hput : RowAt (w3.setCells hb 3 NZ.toList) hb 76 (wrL K.old v1' v2 (List.replicate 200 false)).toArray := by
    have hX : RowAt w3 hb 76 ([Value.int .i64 K.old, v1', v2] ++ nm.flatMap boolL ++ ([] : List Value)).toArray := by simpa using H3.out.1
    have := RowAt.put ((List.replicate 200 false).flatMap boolL) 3 w3 [Value.int .i64 K.old, v1', v2] (nm.flatMap boolL) [] (by rw [hlen, hzl]) rfl hX
    rw [HNZ.out]
    simpa [mkA, wrL] using this
  have hg := set_grown w3 hb NZ.toList 3
  have hne1 : v1'.ownBlock ≠ some hb := fun e => by
    obtain ⟨hO13, -⟩ := H3.out.2
    rcases hO13.2 with ⟨e1, _⟩ | ⟨g, cap, cur, e1, _, h3, _⟩
    · rw [e1] at e; cases e
    · rw [e1] at e; cases e
      rw [show w3.heap[g]? = _ from H3.out.1] at h3
      injection h3 with h3; injection h3 with _ h3 _
      exact absurd h3 (by decide)
  have hne2 : v2.ownBlock ≠ some hb := fun e => by
    obtain ⟨-, hO23, -⟩ := H3.out.2
    rcases hO23.2 with ⟨e1, _⟩ | ⟨g, cap, cur, e1, _, h3, _⟩
    · rw [e1] at e; cases e
    · rw [e1] at e; cases e
      rw [show w3.heap[g]? = _ from H3.out.1] at h3
      injection h3 with h3; injection h3 with _ h3 _
      exact absurd h3 (by decide)
  have HF : Hid (WrAt (w3.setCells hb 3 NZ.toList) B hb v1' v2 K (List.replicate 200 false) ∧ OnlyP (hpBlocks hb v1 v2) w (w3.setCells hb 3 NZ.toList)) :=
    ⟨⟨hput, H3.out.2.1.kept hg.1 (.inr hne1), H3.out.2.2.1.kept hg.1 (.inr hne2), hBh⟩, H3.out.2.2.2.2.grown hg.1 (fun r e => .inr (by injection e with e; exact .inl e.symm))⟩
  clear hput hg hth
  go_end0
  exact ⟨rfl, ⟨v1', by rw [← HKK.out]; exact HF.out.1, H3.out.2.2.2.1⟩, HF.out.2⟩

/-- The one operation of a drawn region that may come up: a struct is written whole. -/
theorem held_store_rowY {ops : Array Oper} {Q : Exit → Act → World → Prop} {md : Region.Mode} {S : World → Prop} {o : Oper} {fuel : Nat} {listed : Array Bool} {a : Act} {w : World} (i : Nat) (hr : Region.ready md ops listed = [i]) (hi : ops[i]? = some o) (hw : Region.wanted o (yielded ops a.tmps) = true) (T : TypeId) (x y : Operand) (ho : o.op = .store T x y) (hd : o.dst = none)
    (b : Nat) (cs c0 : Array Value) (hx : a.eval x = .pointer (some ⟨b, 0, none⟩)) (hy : a.eval y = .agg cs) (hR : RowAt w b T c0) (hsz : (Try.prog.info? T).map (·.size) = some cs.size) (he : c0.size = cs.size) (hone : cs.all (·.oneCell') = true)
    (h : ∀ w', RowAt w' b T cs → w.grownBy w' (some b) → w'.heap.size = w.heap.size → S w' ∧ wpAnyH Try.prog md ops Q S fuel (listed.setIfInBounds i true) a w') : wpAnyH Try.prog md ops Q S (fuel + 1) listed a w := by
  refine wpAnyH_ready hr (by simp) (AllReadyH.cons hi (fun K hK => ?_) AllReadyH.nil)
  rw [if_pos hw]
  refine wp_store_row T x y ho b cs hx hy T c0 hR hsz he hone ?_
  rw [hd]
  have := h _ (setRow_heap w b _ _ _ _ hR) ⟨rfl, rfl, rfl, by simp, fun k _ hne => setRow_other w b k _ (by intro e; exact hne (by rw [e]))⟩ (by simp)
  exact hK.out _ _ this.1 (fun _ => this.2)

set_option maxRecDepth 100000 in
set_option maxHeartbeats 4000000 in
theorem young_any (h : Hp) (nm : List Bool) (hnm : nm.length = 200) (od : Nat) (hod : h.old = (od : Int)) (hle : od ≤ h.cells.length) (hl : h.cells.length ≤ 200) (B hb : Nat) (v1 v2 : Value) (w : World) (hW : WrAt w B hb v1 v2 h nm) :
    Calls Try.prog 61 #[.pointer (some ⟨hb, 0, none⟩)] w fun e w' => (∃ v, e = .returned (.agg #[.int .i64 h.old, v1, v2, v]) ∧ OwnR w' w.heap.size v 3 intL 1 (idxI (nm.take od) od)) ∧ Below w.heap.size w w' := by
  obtain ⟨hR, hO1, hO2, hBh⟩ := hW
  have hbl := RowAt.lt hR
  obtain ⟨o1, c1, e1⟩ := own_formX hO1
  obtain ⟨o2, c2, e2⟩ := own_formX hO2
  subst e1 e2
  rw [hod] at hR ⊢
  obtain ⟨n, hn⟩ : ∃ n, n = h.cells.length := ⟨_, rfl⟩
  obtain ⟨n2, hn2⟩ : ∃ n2, n2 = h.roots.length := ⟨_, rfl⟩
  have hin := OwnR.inR (l := h.cells) hO1 cellL_len
  rw [← hn] at hle hl hR hin ⊢
  rw [← hn2] at hR ⊢
  have HN := hideT' hn
  have HI := hideT' hin
  have HR := hideT' hR
  have hz := zero_yg.1
  have hol : (od : Int) ≤ 200 := by omega
  have hX1 : RowAt (w.alloc (.cells #[.int .i64 0, .slice none 0 0, .slice none 0 0, .slice none 0 0] 30)) w.heap.size 30 #[.int .i64 0, .slice none 0 0, .slice none 0 0, .slice none 0 0] := RowAt.new _ _ _
  have hB1 : Below w.heap.size w (w.alloc (.cells #[.int .i64 0, .slice none 0 0, .slice none 0 0, .slice none 0 0] 30)) := (Below.refl _ _).alloc (Nat.le_refl _) _
  have HX := hideT' (And.intro hX1 hB1)
  clear hR hO1 hO2 hn hn2 hin hod hX1 hB1
  go_enter Try.func61, Try.ntmps61
  go_wp2_with fail
  obtain ⟨W, hWe⟩ : ∃ W, W = w.alloc (.cells #[.int .i64 0, .slice none 0 0, .slice none 0 0, .slice none 0 0] 30) := ⟨_, rfl⟩
  rw [← hWe] at HX ⊢
  have hWs : W.heap.size = w.heap.size + 1 := by rw [hWe]; simp
  have HF : Hid (∀ w', Below W.heap.size W w' → (w'.cell? ⟨hb, 0, none⟩ = some (.int .i64 (od : Int)) ∧ w'.cell? ⟨hb, 1, none⟩ = some (.slice o1 n c1) ∧ w'.cell? ⟨hb, 2, none⟩ = some (.slice o2 n2 c2)) ∧ RowAt w' w.heap.size 30 #[.int .i64 0, .slice none 0 0, .slice none 0 0, .slice none 0 0] ∧ RowAt w' hb 76 (wrL (od : Int) (.slice o1 n c1) (.slice o2 n2 c2) nm).toArray ∧ Below w.heap.size w w') := by
    intro w' hb'
    have hr := (HR.out.below HX.out.2 hbl).below hb' (by omega)
    refine ⟨⟨by rw [cell_of_row _ _ _ _ _ _ hr]; rfl, by rw [cell_of_row _ _ _ _ _ _ hr]; rfl, by rw [cell_of_row _ _ _ _ _ _ hr]; rfl⟩, HX.out.1.below hb' (by omega), hr, HX.out.2.trans (hb'.mono (by omega))⟩
  clear hWe
  have hS := (HF.out W.drew (Below.refl W.heap.size W).drew).1
  refine held_begin (fun w' => w'.cell? ⟨hb, 0, none⟩ = some (.int .i64 (od : Int)) ∧ w'.cell? ⟨hb, 1, none⟩ = some (.slice o1 n c1) ∧ w'.cell? ⟨hb, 2, none⟩ = some (.slice o2 n2 c2)) (by kernel_rfl) ?_
  refine held_val 0 (some 3) rfl rfl (by kernel_rfl) (by kernel_rfl) (by kernel_rfl) noPanic_put rfl (.pointer (some ⟨hb, 0, none⟩)) (fun _ => by go_simp) hS ?_
  simp only [Act.put, List.setIfInBounds_toArray, List.set_cons_zero, List.set_cons_succ]
  refine held_val 1 (some 4) rfl rfl (by kernel_rfl) (by kernel_rfl) (by kernel_rfl) noPanic_put rfl (.pointer (some ⟨hb, 0, none⟩)) (fun _ => by go_simp) hS ?_
  simp only [Act.put, List.setIfInBounds_toArray, List.set_cons_zero, List.set_cons_succ]
  refine held_val 2 (some 5) rfl rfl (by kernel_rfl) (by kernel_rfl) (by kernel_rfl) noPanic_put rfl (.pointer (some ⟨hb, 0, none⟩)) (fun _ => by go_simp) hS ?_
  simp only [Act.put, List.setIfInBounds_toArray, List.set_cons_zero, List.set_cons_succ]
  refine held_val 3 (some 6) rfl rfl (by kernel_rfl) (by kernel_rfl) (by kernel_rfl) noPanic_put rfl (.pointer (some ⟨hb, 0, none⟩)) (fun _ => by go_simp) hS ?_
  simp only [Act.put, List.setIfInBounds_toArray, List.set_cons_zero, List.set_cons_succ]
  refine held_valS 4 (some 7) rfl rfl (by kernel_rfl) (by kernel_rfl) (by kernel_rfl) noPanic_put rfl (.int .i64 (od : Int)) (fun w' h => run_cell1 (.tmp 6) 3 rfl ⟨hb, 0, none⟩ rfl _ Try.underlying3 rfl h.1) hS ?_
  simp only [Act.put, List.setIfInBounds_toArray, List.set_cons_zero, List.set_cons_succ]
  refine held_val 5 (some 8) rfl rfl (by kernel_rfl) (by kernel_rfl) (by kernel_rfl) noPanic_put rfl (.pointer (some ⟨hb, 0, none⟩)) (fun _ => by go_simp) hS ?_
  simp only [Act.put, List.setIfInBounds_toArray, List.set_cons_zero, List.set_cons_succ]
  refine held_val 6 (some 9) rfl rfl (by kernel_rfl) (by kernel_rfl) (by kernel_rfl) noPanic_put rfl (.pointer (some ⟨hb, 0, none⟩)) (fun _ => by go_simp) hS ?_
  simp only [Act.put, List.setIfInBounds_toArray, List.set_cons_zero, List.set_cons_succ]
  refine held_val 7 (some 10) rfl rfl (by kernel_rfl) (by kernel_rfl) (by kernel_rfl) noPanic_put rfl (.pointer (some ⟨hb, 0, none⟩)) (fun _ => by go_simp) hS ?_
  simp only [Act.put, List.setIfInBounds_toArray, List.set_cons_zero, List.set_cons_succ]
  refine held_val 8 (some 11) rfl rfl (by kernel_rfl) (by kernel_rfl) (by kernel_rfl) noPanic_put rfl (.pointer (some ⟨hb, 1, none⟩)) (fun _ => by go_simp) hS ?_
  simp only [Act.put, List.setIfInBounds_toArray, List.set_cons_zero, List.set_cons_succ]
  refine held_valS 9 (some 12) rfl rfl (by kernel_rfl) (by kernel_rfl) (by kernel_rfl) noPanic_put rfl (.slice o1 n c1) (fun w' h => run_cell1 (.tmp 11) 28 rfl ⟨hb, 1, none⟩ rfl _ Try.underlying28 rfl h.2.1) hS ?_
  simp only [Act.put, List.setIfInBounds_toArray, List.set_cons_zero, List.set_cons_succ]
  refine held_val 10 (some 13) rfl rfl (by kernel_rfl) (by kernel_rfl) (by kernel_rfl) noPanic_put rfl (.pointer (some ⟨hb, 0, none⟩)) (fun _ => by go_simp) hS ?_
  simp only [Act.put, List.setIfInBounds_toArray, List.set_cons_zero, List.set_cons_succ]
  refine held_val 11 (some 14) rfl rfl (by kernel_rfl) (by kernel_rfl) (by kernel_rfl) noPanic_put rfl (.pointer (some ⟨hb, 0, none⟩)) (fun _ => by go_simp) hS ?_
  simp only [Act.put, List.setIfInBounds_toArray, List.set_cons_zero, List.set_cons_succ]
  refine held_val 12 (some 15) rfl rfl (by kernel_rfl) (by kernel_rfl) (by kernel_rfl) noPanic_put rfl (.pointer (some ⟨hb, 0, none⟩)) (fun _ => by go_simp) hS ?_
  simp only [Act.put, List.setIfInBounds_toArray, List.set_cons_zero, List.set_cons_succ]
  refine held_val 13 (some 16) rfl rfl (by kernel_rfl) (by kernel_rfl) (by kernel_rfl) noPanic_put rfl (.pointer (some ⟨hb, 2, none⟩)) (fun _ => by go_simp) hS ?_
  simp only [Act.put, List.setIfInBounds_toArray, List.set_cons_zero, List.set_cons_succ]
  refine held_valS 14 (some 17) rfl rfl (by kernel_rfl) (by kernel_rfl) (by kernel_rfl) noPanic_put rfl (.slice o2 n2 c2) (fun w' h => run_cell1 (.tmp 16) 23 rfl ⟨hb, 2, none⟩ rfl _ Try.underlying23 rfl h.2.2) hS ?_
  simp only [Act.put, List.setIfInBounds_toArray, List.set_cons_zero, List.set_cons_succ]
  refine held_val 15 (some 18) rfl rfl (by kernel_rfl) (by kernel_rfl) (by kernel_rfl) noPanic_put rfl (.pointer (some ⟨hb, 0, none⟩)) (fun _ => by go_simp) hS ?_
  simp only [Act.put, List.setIfInBounds_toArray, List.set_cons_zero, List.set_cons_succ]
  refine held_val 16 (some 19) rfl rfl (by kernel_rfl) (by kernel_rfl) (by kernel_rfl) noPanic_put rfl (.pointer (some ⟨hb, 0, none⟩)) (fun _ => by go_simp) hS ?_
  simp only [Act.put, List.setIfInBounds_toArray, List.set_cons_zero, List.set_cons_succ]
  refine held_val 17 (some 20) rfl rfl (by kernel_rfl) (by kernel_rfl) (by kernel_rfl) noPanic_put rfl (.pointer (some ⟨hb, 0, none⟩)) (fun _ => by go_simp) hS ?_
  simp only [Act.put, List.setIfInBounds_toArray, List.set_cons_zero, List.set_cons_succ]
  refine held_val 18 (some 21) rfl rfl (by kernel_rfl) (by kernel_rfl) (by kernel_rfl) noPanic_put rfl (.pointer (some ⟨hb, 0, none⟩)) (fun _ => by go_simp) hS ?_
  simp only [Act.put, List.setIfInBounds_toArray, List.set_cons_zero, List.set_cons_succ]
  refine held_val 19 (some 22) rfl rfl (by kernel_rfl) (by kernel_rfl) (by kernel_rfl) noPanic_put rfl (.pointer (some ⟨hb, 0, none⟩)) (fun _ => by go_simp) hS ?_
  simp only [Act.put, List.setIfInBounds_toArray, List.set_cons_zero, List.set_cons_succ]
  refine held_val 20 (some 23) rfl rfl (by kernel_rfl) (by kernel_rfl) (by kernel_rfl) noPanic_put rfl (.pointer (some ⟨hb, 3, none⟩)) (fun _ => by go_simp) hS ?_
  simp only [Act.put, List.setIfInBounds_toArray, List.set_cons_zero, List.set_cons_succ]
  refine held_val 21 (some 24) rfl rfl (by kernel_rfl) (by kernel_rfl) (by kernel_rfl) noPanic_put rfl (.pointer (some ⟨hb, 0, none⟩)) (fun _ => by go_simp) hS ?_
  simp only [Act.put, List.setIfInBounds_toArray, List.set_cons_zero, List.set_cons_succ]
  refine held_val 22 (some 25) rfl rfl (by kernel_rfl) (by kernel_rfl) (by kernel_rfl) noPanic_put rfl (.pointer (some ⟨hb, 0, none⟩)) (fun _ => by go_simp) hS ?_
  simp only [Act.put, List.setIfInBounds_toArray, List.set_cons_zero, List.set_cons_succ]
  refine held_val 23 (some 26) rfl rfl (by kernel_rfl) (by kernel_rfl) (by kernel_rfl) noPanic_put rfl (.pointer (some ⟨hb, 0, none⟩)) (fun _ => by go_simp) hS ?_
  simp only [Act.put, List.setIfInBounds_toArray, List.set_cons_zero, List.set_cons_succ]
  refine held_val 24 (some 27) rfl rfl (by kernel_rfl) (by kernel_rfl) (by kernel_rfl) noPanic_put rfl (.pointer (some ⟨hb, 0, none⟩)) (fun _ => by go_simp) hS ?_
  simp only [Act.put, List.setIfInBounds_toArray, List.set_cons_zero, List.set_cons_succ]
  refine held_valS 25 (some 28) rfl rfl (by kernel_rfl) (by kernel_rfl) (by kernel_rfl) noPanic_put rfl (.int .i64 (od : Int)) (fun w' h => run_cell1 (.tmp 27) 3 rfl ⟨hb, 0, none⟩ rfl _ Try.underlying3 rfl h.1) hS ?_
  simp only [Act.put, List.setIfInBounds_toArray, List.set_cons_zero, List.set_cons_succ]
  refine held_val 26 (some 29) rfl rfl (by kernel_rfl) (by kernel_rfl) (by kernel_rfl) noPanic_put rfl (.slice (some ⟨hb, 3, none⟩) od 200) (fun _ => by go_simp) hS ?_
  simp only [Act.put, List.setIfInBounds_toArray, List.set_cons_zero, List.set_cons_succ]
  have hms : MarksAt W.drew hb 3 (nm.take od) := by
    intro i hi
    have hml : (nm.take od).length = od := by rw [List.length_take, hnm]; omega
    rw [hml] at hi
    obtain ⟨_, _, gr, _⟩ := HF.out W.drew (Below.refl W.heap.size W).drew
    have hb1 : World.cell? W.drew ⟨hb, 3 + i, none⟩ = (wrL (od : Int) (.slice o1 n c1) (.slice o2 n2 c2) nm)[3 + i]? := by rw [cell_of_row _ _ _ _ _ _ gr, List.getElem?_toArray]
    have hb2 : (wrL (od : Int) (.slice o1 n c1) (.slice o2 n2 c2) nm)[3 + i]? = (nm.flatMap boolL)[i]? := by
      rw [show 3 + i = i + 1 + 1 + 1 by omega]; rfl
    have hb3 := rec_get boolL 1 boolL_len nm i 0 (by omega) (by decide)
    rw [Nat.mul_one, Nat.add_zero] at hb3
    rw [hb1, hb2, hb3]
    have : bAt (nm.take od) i = nm.getD i default := by unfold bAt; simp only [List.getD]; rw [List.getElem?_take_of_lt hi]; rfl
    rw [this]; rfl
  refine held_call 27 (some 30) (by kernel_rfl) rfl rfl rfl 56 #[.pointer (some ⟨hb, 0, none⟩), .slice (some ⟨hb, 3, none⟩) od 200] (by go_simp) _ (numbers_any h.cells (nm.take od) hb hb 3 od 200 n c1 o1 W.drew (by rw [List.length_take, hnm]; omega) hle hl HN.out hS.2.1 ((HI.out.below HX.out.2).below (Below.refl W.heap.size W).drew) hms (by show hb < W.heap.size; omega)) ?_
  rintro e w3 ⟨⟨v, rfl, hown⟩, hB3⟩
  have hB3' : Below W.heap.size W w3 := ⟨hB3.os, hB3.tape, hB3.output, hB3.size, hB3.block⟩
  obtain ⟨hS3, hX3, hR3, hT3⟩ := HF.out w3 hB3'
  obtain ⟨o4, c4, e4⟩ := own_formX hown
  refine ⟨_, rfl, hS3, ?_⟩
  simp only [Act.put, List.setIfInBounds_toArray, List.set_cons_zero, List.set_cons_succ]
  subst e4
  obtain ⟨n4, hn4⟩ : ∃ n4, n4 = (idxI (nm.take od) od).length := ⟨_, rfl⟩
  rw [← hn4]
  refine held_val 28 (some 31) rfl rfl (by kernel_rfl) (by kernel_rfl) (by kernel_rfl) noPanic_put rfl (.agg #[.int .i64 (od : Int), .slice o1 n c1, .slice o2 n2 c2, .slice o4 n4 c4]) (fun _ => by go_simp) hS3 ?_
  simp only [Act.put, List.setIfInBounds_toArray, List.set_cons_zero, List.set_cons_succ]
  refine held_store_rowY 29 (by kernel_rfl) rfl rfl 30 (.tmp 2) (.tmp 31) rfl rfl w.heap.size #[.int .i64 (od : Int), .slice o1 n c1, .slice o2 n2 c2, .slice o4 n4 c4] _ rfl rfl hX3 zero_yg.2 rfl (yg_one _ _ _ _ _ _ _ _ _ _) ?_
  intro w5 hX5 hg5 hs5
  have hr5 : RowAt w5 hb 76 (wrL (od : Int) (.slice o1 n c1) (.slice o2 n2 c2) nm).toArray := hR3.grown hg5 (by intro e; injection e; omega)
  refine ⟨⟨by rw [cell_of_row _ _ _ _ _ _ hr5]; rfl, by rw [cell_of_row _ _ _ _ _ _ hr5]; rfl, by rw [cell_of_row _ _ _ _ _ _ hr5]; rfl⟩, ?_⟩
  refine wpAnyH_done (by kernel_rfl) ?_ _
  refine NoPanic.normal ?_
  have hsz : W.heap.size ≤ w3.heap.size := hB3'.size
  have HO : Hid (OwnR w5 w.heap.size (.slice o4 n4 c4) 3 intL 1 (idxI (nm.take od) od) ∧ Below w.heap.size w w5) := by
    rw [← hn4] at hown
    exact ⟨own_baseX (hown.kept hg5 (.inr (fun e => by have := (hown.lt _ e).1; have h2 : W.heap.size ≤ w.heap.size := this; omega))) (by show _ ≤ W.heap.size; omega), hT3.grown hg5 (by omega) (fun k e => by cases e; exact Nat.le_refl _)⟩
  clear hown hB3 hB3' hS3 hR3 hT3 hX3 hg5 hr5 hS hms
  go_wp2
  exact bodyPost_ret (v := .agg #[.int .i64 (od : Int), .slice o1 n c1, .slice o2 n2 c2, .slice o4 n4 c4]) (results_cell_row Try.results61 _ _ w.heap.size 30 _ (0, 0) _ rfl hX5 Try.underlying30 rfl zero_yg.2) rfl ⟨⟨_, rfl, HO.out.1⟩, HO.out.2⟩
end Go.Proofs.Ytoaancgmahdbnaa
