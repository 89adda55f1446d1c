/-
  What impl's appendDeep adds, and what impl.ShowDeep answers.
-/
import Derived.Test.YtelciainidklgaaDoorShowD
import Derived.Test.YtelciainidklgaaDoorImplShowC
import Derived.Test.YtelciainidklgaaDoorYgGoodI
namespace Go.Proofs.YtelciainidklgaaDoor
open Go.RowKit BL
set_option linter.unusedVariables false

/-- The text is added. -/
def DeepC (t full : List UInt8) (B : Nat) (w : World) (e : Ending) (w' : World) : Prop :=
  (∃ v', e = .returned v' ∧ w'.ownsRow B 5 1 v' (t ++ full).length (Lib.byteCells (t ++ full))) ∧ Below B w w' ∧ Lib.OthersKept 5 none w w'

set_option maxHeartbeats 4000000 in
set_option maxRecDepth 100000 in
theorem appendDeep_any (cs : List Cl) (hs : cs.all (sndC cs.length) = true) (hl : cs.length ≤ 200) (hr : clRange cs) (hb : Nat) (o1 : Option Addr) (c1 : Nat) : ∀ (d : Nat), d ≤ 10 → ∀ (i : Nat), i < cs.length → ∀ (B : Nat) (v : Value) (t : List UInt8) (w : World), hb < B → B ≤ w.heap.size → (∀ g : Nat, o1 = some ⟨g, 0, none⟩ → g < B) → w.cell? ⟨hb, 1, none⟩ = some (.slice o1 cs.length c1) → InR w (.slice o1 cs.length c1) cellL 4 cs → w.ownsRow B 5 1 v t.length (Lib.byteCells t) → t.length + 24 * 2 ^ d ≤ 1000000 → TabH B w →
    Calls Tryd.prog 40 #[.pointer (some ⟨hb, 0, none⟩), v, .int .i64 (i : Int), .int .i64 (d : Int)] w fun e w' => DeepC t (deepT cs d i) B w e w' := by
  intro d
  induction d with
  | zero =>
    intro hd10 i hi B v t w hbB hBw hgB hc hin hown htl hT
    obtain ⟨dd, hd⟩ : ∃ dd, dd = cs.getD i default := ⟨_, rfl⟩
    have hrg := hr i hi
    have hsn := getD_all hs hi
    rw [← hd] at hrg hsn
    obtain ⟨lf, kk, aa, bb⟩ := dd
    obtain ⟨g, hgo, q0, q1, q2, q3⟩ := hin.cells4 hi hd
    subst hgo
    have hil : (i : Int) < (cs.length : Int) := by omega
    have hz := zero_cell.1
    obtain ⟨ov, cv, hv⟩ := own_formX hown
    subst hv
    obtain ⟨i0, hi0, hz0, hz1, hz2⟩ := info_parts infoH_u8
    have HIN := hideT' hin
    have HOW := hideT' hown
    have HT := hideT' hT
    have hglt := hgB g rfl
    cases lf with
    | true =>
      have HFU : Hid (deepT cs 0 i = Lib.itoa kk) := by unfold Hid; rw [deepT_leaf _ (by rw [← hd]), ← hd]
      have hil2 := itoa_len hrg.1 hrg.2
      simp only at hrg hil2
      have h1 : 24 ≤ 24 * 2 ^ 0 := by have := Nat.one_le_two_pow (n := 0); omega
      have HC := hideT' (Tryd.strconv_AppendInt_10 B t.length kk hrg.1 hrg.2 _ _ (w.alloc (.cells #[.bool true, .int .i64 kk, .int .i64 aa, .int .i64 bb] 99)) (hown.alloc _) (by simp; omega) (by omega) (hT.on ((Below.refl _ _).alloc hBw _)))
      have HB0 : Hid (Below B w (w.alloc (.cells #[.bool true, .int .i64 kk, .int .i64 aa, .int .i64 bb] 99))) := (Below.refl _ _).alloc hBw _
      clear hd hin hown hT hsn
      go_enter Tryd.func40, Tryd.ntmps40
      go_wp2_with fail
      refine HC.out.mono ?_
      rintro e w1 ⟨v1, rfl, hown1, hB1, hk1⟩
      have HO1 := hideT' hown1
      have HK : Hid (Lib.OthersKept 5 none w w1) := (Lib.OthersKept.alloc (Lib.OthersKept.refl 5 none w) _).trans hk1
      have HB1 := hideT' (HB0.out.trans hB1)
      clear hown1 hk1 hB1
      go_wp2
      go_ret
      refine ⟨⟨_, rfl, ?_⟩, HB1.out, HK.out⟩
      rw [HFU.out, List.length_append, Lib.byteCells_append]; exact HO1.out
    | false =>
      have HFU : Hid (deepT cs 0 i = [42]) := by unfold Hid; exact deepT_star (by rw [← hd])
      have HB0 : Hid (Below B w (w.alloc (.cells #[.bool false, .int .i64 kk, .int .i64 aa, .int .i64 bb] 99))) := (Below.refl _ _).alloc hBw _
      have HOW1 := hideT' (hown.alloc (.cells #[.bool false, .int .i64 kk, .int .i64 aa, .int .i64 bb] 99))
      have htl2 : t.length ≤ 1000000 := by omega
      clear hd hin hown hT hsn hrg
      go_enter Tryd.func40, Tryd.ntmps40
      go_wp2_with (at_builtin; refine wpList_append_own _ rfl _ _ 63 rfl B 5 i0 (.int .u8 0) 1 1 Tryd.underlying63 hi0 hz0 hz1 hz2 rfl (by decide) _ _ _ rfl (HOW1.out.alloc _) ⟨w.heap.size + 1, 0, none⟩ 1 1 [.int .u8 42] rfl rfl (by have h := cell_one_new (w.alloc (.cells #[.bool false, .int .i64 kk, .int .i64 aa, .int .i64 bb] 99)) (.int .u8 42) 5; rwa [World.size_alloc] at h) (byteH_one _) (by unfold maxLen; omega) (by omega) (by rw [World.size_alloc, World.size_alloc]; omega) ?_; intro v9 w9 hown9 hg9 _; obtain ⟨ov9, cv9, hv9⟩ := own_formX hown9; subst hv9)
      go_ret
      have hb9 : Below B w w9 := (HB0.out.alloc (by rw [World.size_alloc]; omega) _).grown hg9 (by rw [World.size_alloc, World.size_alloc]; omega) (fun k e => (HOW.out.lt k e).1)
      have hk9 : Lib.OthersKept 5 none w w9 := kept_grown (Lib.OthersKept.alloc (Lib.OthersKept.alloc (Lib.OthersKept.refl 5 none w) _) _) hg9 (HOW1.out.alloc _)
      refine ⟨⟨_, rfl, ?_⟩, hb9, hk9⟩
      rw [HFU.out, List.length_append, List.length_singleton, ← bytes_snoc]
      exact hown9
  | succ d ih =>
    intro hd10 i hi B v t w hbB hBw hgB hc hin hown htl hT
    obtain ⟨dd, hd⟩ : ∃ dd, dd = cs.getD i default := ⟨_, rfl⟩
    have hrg := hr i hi
    have hsn := getD_all hs hi
    rw [← hd] at hrg hsn
    obtain ⟨lf, kk, aa, bb⟩ := dd
    obtain ⟨g, hgo, q0, q1, q2, q3⟩ := hin.cells4 hi hd
    subst hgo
    have hil : (i : Int) < (cs.length : Int) := by omega
    have hz := zero_cell.1
    obtain ⟨ov, cv, hv⟩ := own_formX hown
    subst hv
    obtain ⟨i0, hi0, hz0, hz1, hz2⟩ := info_parts infoH_u8
    have HIN := hideT' hin
    have HOW := hideT' hown
    have HT := hideT' hT
    have hglt := hgB g rfl
    cases lf with
    | true =>
      have HFU : Hid (deepT cs (d + 1) i = Lib.itoa kk) := by unfold Hid; rw [deepT_leaf _ (by rw [← hd]), ← hd]
      have hil2 := itoa_len hrg.1 hrg.2
      simp only at hrg hil2
      have h1 : 24 ≤ 24 * 2 ^ (d + 1) := by have := Nat.one_le_two_pow (n := (d + 1)); omega
      have HC := hideT' (Tryd.strconv_AppendInt_10 B t.length kk hrg.1 hrg.2 _ _ (w.alloc (.cells #[.bool true, .int .i64 kk, .int .i64 aa, .int .i64 bb] 99)) (hown.alloc _) (by simp; omega) (by omega) (hT.on ((Below.refl _ _).alloc hBw _)))
      have HB0 : Hid (Below B w (w.alloc (.cells #[.bool true, .int .i64 kk, .int .i64 aa, .int .i64 bb] 99))) := (Below.refl _ _).alloc hBw _
      clear hd hin hown hT hsn ih
      go_enter Tryd.func40, Tryd.ntmps40
      go_wp2_with fail
      refine HC.out.mono ?_
      rintro e w1 ⟨v1, rfl, hown1, hB1, hk1⟩
      have HO1 := hideT' hown1
      have HK : Hid (Lib.OthersKept 5 none w w1) := (Lib.OthersKept.alloc (Lib.OthersKept.refl 5 none w) _).trans hk1
      have HB1 := hideT' (HB0.out.trans hB1)
      clear hown1 hk1 hB1
      go_wp2
      go_ret
      refine ⟨⟨_, rfl, ?_⟩, HB1.out, HK.out⟩
      rw [HFU.out, List.length_append, Lib.byteCells_append]; exact HO1.out
    | false =>
      obtain ⟨hn0, A, C, hA, hC, hAi, hCi⟩ := sndC_pair hsn rfl
      have HFU := hideT' (deepT_pair d (by rw [← hd]) (by rw [← hd]; exact hA) (by rw [← hd]; exact hC) : deepT cs (d + 1) i = _)
      subst hn0 hA hC
      have HLA := hideT' (deepT_len hs hr d A hAi)
      have HLC := hideT' (deepT_len hs hr d C hCi)
      have hp2 : 24 * 2 ^ (d + 1) = 2 * (24 * 2 ^ d) := by rw [Nat.pow_succ]; omega
      obtain ⟨P, hP⟩ : ∃ P, P = 24 * 2 ^ d := ⟨_, rfl⟩
      rw [← hP] at HLA HLC hp2
      have HTL1 : Hid (t.length + 2 * P ≤ 1000000) := by unfold Hid; omega
      have hB0 : Below B w (w.alloc (.cells #[.bool false, .int .i64 0, .int .i64 (A : Int), .int .i64 (C : Int)] 99)) := (Below.refl _ _).alloc hBw _
      have HRC1 := hideT' (RowAt.new w 99 #[.bool false, .int .i64 0, .int .i64 (A : Int), .int .i64 (C : Int)])
      have HOW1 := hideT' (hown.alloc (.cells #[.bool false, .int .i64 0, .int .i64 (A : Int), .int .i64 (C : Int)] 99))
      have HBW1 := hideT' (And.intro hB0 (Lib.OthersKept.alloc (Lib.OthersKept.refl 5 none w) (.cells #[.bool false, .int .i64 0, .int .i64 (A : Int), .int .i64 (C : Int)] 99)))
      have HINB : Hid (∀ w', Below B w w' → InR w' (.slice (some ⟨g, 0, none⟩) cs.length c1) cellL 4 cs) := fun w' h => by
        obtain ⟨o', cap', e, hh⟩ := HIN.out
        refine ⟨o', cap', e, fun hne => ?_⟩
        obtain ⟨g', hg', hlt, hcc⟩ := hh hne
        cases e
        cases hg'
        exact ⟨g, rfl, Nat.lt_of_lt_of_le hlt h.size, fun x j u hx hu => (h.cell (p := ⟨g, x * 4 + j, none⟩) hglt).trans (hcc x j u hx hu)⟩
      have IH : Hid (∀ (j : Nat) (v : Value) (t : List UInt8) (w' : World), j < cs.length → Below B w w' → w'.ownsRow B 5 1 v t.length (Lib.byteCells t) → t.length + P ≤ 1000000 → Calls Tryd.prog 40 #[.pointer (some ⟨hb, 0, none⟩), v, .int .i64 (j : Int), .int .i64 (d : Int)] w' fun e w'' => DeepC t (deepT cs d j) B w' e w'') := fun j v t w' hj hB ho ht =>
        ih (by omega) j hj B v t w' hbB (Nat.le_trans hBw hB.size) hgB ((hB.cell (p := ⟨hb, 1, none⟩) hbB).trans hc) (HINB.out w' hB) ho (by rw [← hP]; exact ht) (HT.out.on hB)
      obtain ⟨N, hN⟩ : ∃ N : Int, N = ((d + 1 : Nat) : Int) := ⟨_, rfl⟩
      have hNn : ¬ N = 0 := by omega
      have hNe : (N == 0) = false := by simp; omega
      have hwr : IntKind.i64.wrap (N - 1) = N - 1 := by rw [IntKind.wrap_i64]; omega
      have HNM : Hid (N - 1 = (d : Int)) := by unfold Hid; omega
      rw [← hN]
      clear hd hin hown hT hB0 ih hsn hrg hN hp2 hP hs
      go_enter Tryd.func40, Tryd.ntmps40
      go_wp2_with fail
      obtain ⟨w1, hw1⟩ : ∃ w1, w1 = w.alloc (.cells #[.bool false, .int .i64 0, .int .i64 (A : Int), .int .i64 (C : Int)] 99) := ⟨_, rfl⟩
      rw [← hw1] at HRC1 HOW1 HBW1 ⊢
      clear hw1
      have hS1 : RowAt w1.drew w.heap.size 99 #[.bool false, .int .i64 0, .int .i64 (A : Int), .int .i64 (C : Int)] := HRC1.out
      refine held_begin (fun w' => RowAt w' w.heap.size 99 #[.bool false, .int .i64 0, .int .i64 (A : Int), .int .i64 (C : Int)]) (by kernel_rfl) ?_
      refine held_val 0 (some 30) rfl rfl (by kernel_rfl) (by kernel_rfl) (by kernel_rfl) noPanic_put rfl (.pointer (some ⟨hb, 0, none⟩)) (fun _ => by first | (go_simp; done) | (go_simp; omega)) hS1 ?_
      simp only [Act.put, List.setIfInBounds_toArray, List.set_cons_zero, List.set_cons_succ]
      refine held_val 1 (some 31) rfl rfl (by kernel_rfl) (by kernel_rfl) (by kernel_rfl) noPanic_put rfl (.slice ov t.length cv) (fun _ => by first | (go_simp; done) | (go_simp; omega)) hS1 ?_
      simp only [Act.put, List.setIfInBounds_toArray, List.set_cons_zero, List.set_cons_succ]
      refine held_val 4 (some 34) rfl rfl (by kernel_rfl) (by kernel_rfl) (by kernel_rfl) noPanic_put rfl (.pointer (some ⟨w.heap.size, 2, none⟩)) (fun _ => by first | (go_simp; done) | (go_simp; omega)) hS1 ?_
      simp only [Act.put, List.setIfInBounds_toArray, List.set_cons_zero, List.set_cons_succ]
      refine held_valS 5 (some 35) rfl rfl (by kernel_rfl) (by kernel_rfl) (by kernel_rfl) noPanic_put rfl (.int .i64 (A : Int)) (fun w' h => run_cell1 (.tmp 34) 3 rfl ⟨w.heap.size, 2, none⟩ rfl _ Tryd.underlying3 rfl (by rw [cell_of_row w' _ _ _ _ _ h]; rfl)) hS1 ?_
      simp only [Act.put, List.setIfInBounds_toArray, List.set_cons_zero, List.set_cons_succ]
      refine held_val 6 (some 36) rfl rfl (by kernel_rfl) (by kernel_rfl) (by kernel_rfl) noPanic_put rfl (.int .i64 N) (fun _ => by first | (go_simp; done) | (go_simp; omega)) hS1 ?_
      simp only [Act.put, List.setIfInBounds_toArray, List.set_cons_zero, List.set_cons_succ]
      refine held_val 7 (some 37) rfl rfl (by kernel_rfl) (by kernel_rfl) (by kernel_rfl) noPanic_put rfl (.int .i64 (N - 1)) (fun _ => by first | (go_simp; done) | (go_simp; omega)) hS1 ?_
      simp only [Act.put, List.setIfInBounds_toArray, List.set_cons_zero, List.set_cons_succ]
      rw [HNM.out]
      refine held_ready 2 (some 32) (by kernel_rfl) rfl rfl rfl (.slice (some ⟨w1.heap.size, 0, none⟩) 1 1) (w1.drew.alloc (.cells #[.int .u8 40] 5)) (by go_simp) (RowAt.old hS1 _) ?_
      simp only [Act.put, List.setIfInBounds_toArray, List.set_cons_zero, List.set_cons_succ]
      refine held_step 3 (by kernel_rfl) rfl rfl fun K3 hK3 => ?_
      have hO0 : w1.drew.ownsRow B 5 1 (.slice ov t.length cv) t.length (Lib.byteCells t) := HOW1.out
      refine append_own3_wp _ _ _ 63 rfl B 5 i0 (.int .u8 0) 1 1 Tryd.underlying63 hi0 hz0 hz1 hz2 rfl (by decide) (.slice ov t.length cv) t.length _ rfl (hO0.alloc _) ⟨w1.heap.size, 0, none⟩ 1 1 [.int .u8 40] rfl rfl (cell_one_new w1.drew _ _) (byteH_one _) (by decide) (by have := HTL1.out; unfold maxLen; omega) (by have := HTL1.out; omega) (by rw [World.size_alloc]; have := HBW1.out.1.size; show B ≤ w1.heap.size + 1; omega) ?_
      intro v3 w3 hown3 hg3 _
      obtain ⟨ov3, cv3, hv3⟩ := own_formX hown3
      subst hv3
      have hB3 : Below B w w3 := (((HBW1.out.1.drew).alloc (by have := HBW1.out.1.size; show B ≤ w1.heap.size; omega) _)).grown hg3 (by rw [World.size_alloc]; have := HBW1.out.1.size; show B ≤ w1.heap.size + 1; omega) (fun k e => (HOW1.out.lt k e).1)
      have hk3 : Lib.OthersKept 5 none w w3 := kept_grown (Lib.OthersKept.alloc (Lib.OthersKept.drew HBW1.out.2) _) hg3 (hO0.alloc _)
      have hR3 : RowAt w3 w.heap.size 99 #[.bool false, .int .i64 0, .int .i64 (A : Int), .int .i64 (C : Int)] := RowAt.grown (RowAt.old hS1 _) hg3 (fun e => own_row_apart (by decide) hO0 hS1 e.symm)
      have hs3 := hB3.size
      refine hK3.out _ _ hR3 ?_
      show wpAnyH Tryd.prog _ _ _ _ _ _ (Act.put _ (some 33) _) _
      simp only [Act.put, List.setIfInBounds_toArray, List.set_cons_zero, List.set_cons_succ]
      have hown3' : w3.ownsRow B 5 1 (.slice ov3 (t ++ [40]).length cv3) (t ++ [40]).length (Lib.byteCells (t ++ [40])) := by rw [List.length_append, List.length_singleton, ← bytes_snoc]; exact hown3
      have hca := IH.out A (.slice ov3 (t ++ [40]).length cv3) (t ++ [40]) w3 hAi hB3 hown3' (by rw [List.length_append, List.length_singleton]; have := HTL1.out; have := HLA.out; omega)
      rw [List.length_append, List.length_singleton] at hca
      refine held_call 8 (some 38) (by kernel_rfl) rfl rfl rfl 40 #[.pointer (some ⟨hb, 0, none⟩), .slice ov3 (t.length + 1) cv3, .int .i64 (A : Int), .int .i64 (d : Int)] (by go_simp) _ hca ?_
      rintro e w4 ⟨⟨v4, rfl, hown4⟩, hB4, hk4⟩
      obtain ⟨ov4, cv4, hv4⟩ := own_formX hown4
      subst hv4
      obtain ⟨t5, ht5⟩ : ∃ t5, t5 = t ++ [40] ++ deepT cs d A := ⟨_, rfl⟩
      rw [← ht5] at hown4 ⊢
      have HT5 := hideT' ht5
      have HL5 : Hid (t5.length + P + 2 ≤ 1000000) := by
        unfold Hid; rw [ht5]; simp only [List.length_append, List.length_cons, List.length_nil]
        have := HLA.out; have := HTL1.out; omega
      clear ht5
      have hR4 := rowH_others hR3 hk4 (by decide)
      refine ⟨_, rfl, hR4, ?_⟩
      simp only [Act.put, List.setIfInBounds_toArray, List.set_cons_zero, List.set_cons_succ]
      refine held_assign 9 (some 1) (by kernel_rfl) rfl rfl _ rfl rfl (.slice ov4 t5.length cv4) rfl hR4 ?_
      simp only [Act.put, List.setIfInBounds_toArray, List.set_cons_zero, List.set_cons_succ]
      refine wpAnyH_done (by kernel_rfl) ?_ _
      refine NoPanic.normal ?_
      have HRC2 := hideT' hR4
      have HOW2 := hideT' hown4
      have HBW2 := hideT' (And.intro (hB3.trans hB4) (hk3.trans hk4))
      have hb2 : B ≤ w4.heap.size := by have := HBW2.out.1.size; omega
      clear hS1 hO0 hown3 hown3' hg3 hB3 hk3 hR3 hca hown4 hB4 hk4 hR4 hK3 hs3 HRC1 HOW1 HBW1
      go_wp2_with fail
      have hS1 : RowAt w4.drew w.heap.size 99 #[.bool false, .int .i64 0, .int .i64 (A : Int), .int .i64 (C : Int)] := HRC2.out
      refine held_begin (fun w' => RowAt w' w.heap.size 99 #[.bool false, .int .i64 0, .int .i64 (A : Int), .int .i64 (C : Int)]) (by kernel_rfl) ?_
      refine held_val 0 (some 39) rfl rfl (by kernel_rfl) (by kernel_rfl) (by kernel_rfl) noPanic_put rfl (.pointer (some ⟨hb, 0, none⟩)) (fun _ => by first | (go_simp; done) | (go_simp; omega)) hS1 ?_
      simp only [Act.put, List.setIfInBounds_toArray, List.set_cons_zero, List.set_cons_succ]
      refine held_val 1 (some 40) rfl rfl (by kernel_rfl) (by kernel_rfl) (by kernel_rfl) noPanic_put rfl (.slice ov4 t5.length cv4) (fun _ => by first | (go_simp; done) | (go_simp; omega)) hS1 ?_
      simp only [Act.put, List.setIfInBounds_toArray, List.set_cons_zero, List.set_cons_succ]
      refine held_val 4 (some 43) rfl rfl (by kernel_rfl) (by kernel_rfl) (by kernel_rfl) noPanic_put rfl (.pointer (some ⟨w.heap.size, 3, none⟩)) (fun _ => by first | (go_simp; done) | (go_simp; omega)) hS1 ?_
      simp only [Act.put, List.setIfInBounds_toArray, List.set_cons_zero, List.set_cons_succ]
      refine held_valS 5 (some 44) rfl rfl (by kernel_rfl) (by kernel_rfl) (by kernel_rfl) noPanic_put rfl (.int .i64 (C : Int)) (fun w' h => run_cell1 (.tmp 43) 3 rfl ⟨w.heap.size, 3, none⟩ rfl _ Tryd.underlying3 rfl (by rw [cell_of_row w' _ _ _ _ _ h]; rfl)) hS1 ?_
      simp only [Act.put, List.setIfInBounds_toArray, List.set_cons_zero, List.set_cons_succ]
      refine held_val 6 (some 45) rfl rfl (by kernel_rfl) (by kernel_rfl) (by kernel_rfl) noPanic_put rfl (.int .i64 N) (fun _ => by first | (go_simp; done) | (go_simp; omega)) hS1 ?_
      simp only [Act.put, List.setIfInBounds_toArray, List.set_cons_zero, List.set_cons_succ]
      refine held_val 7 (some 46) rfl rfl (by kernel_rfl) (by kernel_rfl) (by kernel_rfl) noPanic_put rfl (.int .i64 (N - 1)) (fun _ => by first | (go_simp; done) | (go_simp; omega)) hS1 ?_
      simp only [Act.put, List.setIfInBounds_toArray, List.set_cons_zero, List.set_cons_succ]
      rw [HNM.out]
      refine held_ready 2 (some 41) (by kernel_rfl) rfl rfl rfl (.slice (some ⟨w4.heap.size, 0, none⟩) 1 1) (w4.drew.alloc (.cells #[.int .u8 32] 5)) (by go_simp) (RowAt.old hS1 _) ?_
      simp only [Act.put, List.setIfInBounds_toArray, List.set_cons_zero, List.set_cons_succ]
      refine held_step 3 (by kernel_rfl) rfl rfl fun K3 hK3 => ?_
      have hO0 : w4.drew.ownsRow B 5 1 (.slice ov4 t5.length cv4) t5.length (Lib.byteCells t5) := HOW2.out
      refine append_own3_wp _ _ _ 63 rfl B 5 i0 (.int .u8 0) 1 1 Tryd.underlying63 hi0 hz0 hz1 hz2 rfl (by decide) (.slice ov4 t5.length cv4) t5.length _ rfl (hO0.alloc _) ⟨w4.heap.size, 0, none⟩ 1 1 [.int .u8 32] rfl rfl (cell_one_new w4.drew _ _) (byteH_one _) (by decide) (by have := HL5.out; unfold maxLen; omega) (by have := HL5.out; omega) (by rw [World.size_alloc]; have := HBW2.out.1.size; show B ≤ w4.heap.size + 1; omega) ?_
      intro v3 w3 hown3 hg3 _
      obtain ⟨ov3, cv3, hv3⟩ := own_formX hown3
      subst hv3
      have hB3 : Below B w w3 := (((HBW2.out.1.drew).alloc (by have := HBW2.out.1.size; show B ≤ w4.heap.size; omega) _)).grown hg3 (by rw [World.size_alloc]; have := HBW2.out.1.size; show B ≤ w4.heap.size + 1; omega) (fun k e => (HOW2.out.lt k e).1)
      have hk3 : Lib.OthersKept 5 none w w3 := kept_grown (Lib.OthersKept.alloc (Lib.OthersKept.drew HBW2.out.2) _) hg3 (hO0.alloc _)
      have hR3 : RowAt w3 w.heap.size 99 #[.bool false, .int .i64 0, .int .i64 (A : Int), .int .i64 (C : Int)] := RowAt.grown (RowAt.old hS1 _) hg3 (fun e => own_row_apart (by decide) hO0 hS1 e.symm)
      have hs3 := hB3.size
      refine hK3.out _ _ hR3 ?_
      show wpAnyH Tryd.prog _ _ _ _ _ _ (Act.put _ (some 42) _) _
      simp only [Act.put, List.setIfInBounds_toArray, List.set_cons_zero, List.set_cons_succ]
      have hown3' : w3.ownsRow B 5 1 (.slice ov3 (t5 ++ [32]).length cv3) (t5 ++ [32]).length (Lib.byteCells (t5 ++ [32])) := by rw [List.length_append, List.length_singleton, ← bytes_snoc]; exact hown3
      have hca := IH.out C (.slice ov3 (t5 ++ [32]).length cv3) (t5 ++ [32]) w3 hCi hB3 hown3' (by rw [List.length_append, List.length_singleton]; have := HL5.out; have := HLA.out; omega)
      rw [List.length_append, List.length_singleton] at hca
      refine held_call 8 (some 47) (by kernel_rfl) rfl rfl rfl 40 #[.pointer (some ⟨hb, 0, none⟩), .slice ov3 (t5.length + 1) cv3, .int .i64 (C : Int), .int .i64 (d : Int)] (by go_simp) _ hca ?_
      rintro e w4 ⟨⟨v4, rfl, hown4⟩, hB4, hk4⟩
      obtain ⟨ov4, cv4, hv4⟩ := own_formX hown4
      subst hv4
      obtain ⟨t6, ht6⟩ : ∃ t6, t6 = t5 ++ [32] ++ deepT cs d C := ⟨_, rfl⟩
      rw [← ht6] at hown4 ⊢
      have HT6 := hideT' ht6
      have HL6 : Hid (t6.length + 3 ≤ 2000000) := by
        unfold Hid; rw [ht6]; simp only [List.length_append, List.length_cons, List.length_nil]
        have := HLC.out; have := HL5.out; omega
      clear ht6
      have hR4 := rowH_others hR3 hk4 (by decide)
      refine ⟨_, rfl, hR4, ?_⟩
      simp only [Act.put, List.setIfInBounds_toArray, List.set_cons_zero, List.set_cons_succ]
      refine held_assign 9 (some 1) (by kernel_rfl) rfl rfl _ rfl rfl (.slice ov4 t6.length cv4) rfl hR4 ?_
      simp only [Act.put, List.setIfInBounds_toArray, List.set_cons_zero, List.set_cons_succ]
      refine wpAnyH_done (by kernel_rfl) ?_ _
      refine NoPanic.normal ?_
      have HOW3 := hideT' hown4
      have HBW3 := hideT' (And.intro (hB3.trans hB4) (hk3.trans hk4))
      have hb3 : B ≤ w4.heap.size := by have := HBW3.out.1.size; omega
      clear hS1 hO0 hown3 hown3' hg3 hB3 hk3 hR3 hca hown4 hB4 hk4 hR4 hK3 hs3 HRC2 HOW2 HBW2
      go_wp2_with (at_builtin; refine wpList_append_own _ rfl _ _ 63 rfl B 5 i0 (.int .u8 0) 1 1 Tryd.underlying63 hi0 hz0 hz1 hz2 rfl (by decide) _ _ _ rfl (HOW3.out.alloc _) ⟨w4.heap.size, 0, none⟩ 1 1 [.int .u8 41] rfl rfl (cell_one_new _ _ _) (byteH_one _) (by have := HL6.out; unfold maxLen; omega) (by have := HL6.out; omega) (by simp; have := HBW3.out.1.size; omega) ?_; intro v9 w9 hown9 hg9 _; obtain ⟨ov9, cv9, hv9⟩ := own_formX hown9; subst hv9)
      go_ret
      have hb9 : Below B w w9 := ((HBW3.out.1).alloc (by have := HBW3.out.1.size; omega) _).grown hg9 (by rw [World.size_alloc]; have := HBW3.out.1.size; omega) (fun k e => (HOW3.out.lt k e).1)
      have hk9 : Lib.OthersKept 5 none w w9 := kept_grown (Lib.OthersKept.alloc HBW3.out.2 _) hg9 (HOW3.out.alloc _)
      have hfin : t6 ++ [41] = t ++ deepT cs (d + 1) i := by rw [HT6.out, HT5.out, HFU.out]; simp
      refine ⟨⟨_, rfl, ?_⟩, hb9, hk9⟩
      rw [← hfin, List.length_append, List.length_singleton, ← bytes_snoc]
      exact hown9

/-- What both tell. -/
def showD (m : Yg) (a dp : Int) : ByteArray × Bool := if ygOk m && (rootOk m.h.cells.length a && (decide (0 ≤ dp) && decide (dp ≤ 10))) then (deepB m.h.cells dp.toNat a.toNat, true) else (⟨#[]⟩, false)
theorem showD_no {m : Yg} {a dp : Int} (h : (ygOk m && (rootOk m.h.cells.length a && (decide (0 ≤ dp) && decide (dp ≤ 10)))) = false) : showD m a dp = (⟨#[]⟩, false) := by unfold showD; rw [h]; rfl
theorem showD_yes {m : Yg} {a dp : Int} (h : (ygOk m && (rootOk m.h.cells.length a && (decide (0 ≤ dp) && decide (dp ≤ 10)))) = true) : showD m a dp = (deepB m.h.cells dp.toNat a.toNat, true) := by unfold showD; rw [h]; rfl
theorem ygOk_sndD {m : Yg} (h : ygOk m = true) : sndOk m.h = true := by
  unfold ygOk at h
  rw [Bool.and_eq_true] at h
  exact h.1

set_option maxRecDepth 100000 in
set_option maxHeartbeats 4000000 in
theorem implShowDeep_any (m : Yg) (x1 x2 : Int) (b c d : Nat) (w : World) (hs : YgSmall m 1048576) (hM : YgAt w b c d m) (hr : clRange m.h.cells) (hT : TabH w.heap.size w) :
    Calls Tryd.prog 12 #[.agg (ygC b c d m), .int .i64 x1, .int .i64 x2] w fun e w' => e = .returned (.tuple #[.string (showD m x1 x2).1, .bool (showD m x1 x2).2]) ∧ Below w.heap.size w w' := by
  obtain ⟨lb, lc, ld⟩ := hM.lt
  have hzh := zero_hp.1
  have hR := RowAt.new w 31 (ygC b c d m)
  have hB0 : Below w.heap.size w (w.alloc (.cells (ygC b c d m) 31)) := (Below.refl _ _).alloc (Nat.le_refl _) _
  -- what every later world knows
  have HF : Hid (∀ w', Below (w.heap.size + 1) (w.alloc (.cells (ygC b c d m) 31)) w' → (((w'.cell? ⟨w.heap.size, 0, none⟩ = some (.int .i64 m.h.old) ∧ w'.cell? ⟨w.heap.size, 1, none⟩ = some (slR b m.h.cells)) ∧ w'.cell? ⟨w.heap.size, 2, none⟩ = some (slR c m.h.roots) ∧ w'.cell? ⟨w.heap.size, 3, none⟩ = some (slR d m.noted)) ∧ Below w.heap.size w w' ∧ w.heap.size + 1 ≤ w'.heap.size) ∧ YgAt w' b c d m) := by
    intro w' h
    have hr := RowAt.below hR h (by omega)
    have hT := hB0.trans (h.mono (by omega))
    refine ⟨⟨⟨⟨?_, ?_⟩, ?_, ?_⟩, hT, by have := h.size; simpa using this⟩, hM.below hT lb lc ld⟩ <;> (rw [cell_of_row w' _ _ _ _ _ hr]; rfl)
  have HSM := hideT' hs
  have HRG := hideT' hr
  have HT := hideT' hT
  clear hM hR hs hr hT lb lc ld hB0
  go_enter Tryd.func12, Tryd.ntmps12
  go_wp2_with fail
  refine (withoutNotes_any m.h.old (some ⟨b, 0, none⟩) m.h.cells.length m.h.cells.length (some ⟨c, 0, none⟩) m.h.roots.length m.h.roots.length (some ⟨d, 0, none⟩) m.noted.length m.noted.length (w.alloc (.cells (ygC b c d m) 31))).mono ?_
  rintro e w2 ⟨rfl, hB2⟩
  obtain ⟨w3, hw3⟩ : ∃ w3, w3 = w2.alloc (.cells #[.int .i64 m.h.old, slR b m.h.cells, slR c m.h.roots] 50) := ⟨_, rfl⟩
  have hs2 := hB2.size
  simp only [World.size_alloc] at hs2
  have hB3' : Below (w.heap.size + 1) (w.alloc (.cells (ygC b c d m) 31)) w3 := by rw [hw3]; exact (hB2.mono (by simp)).alloc (by omega) _
  have hs3 : w3.heap.size = w2.heap.size + 1 := by rw [hw3]; simp
  have hX3 : RowAt w3 w2.heap.size 50 #[.int .i64 m.h.old, slR b m.h.cells, slR c m.h.roots] := by rw [hw3]; exact RowAt.new _ _ _
  obtain ⟨⟨⟨⟨f0, f1⟩, f2, f3⟩, hT3, _⟩, hM3⟩ := HF.out w3 hB3'
  rw [hw3] at f0 f1 f2 f3
  have HG := hideT' (implGoodYoung_any m _ _ _ w3 HSM.out HSM.out.2 hM3.rd (fun o n c e => by cases e; exact Nat.le_refl _))
  have HX3 := hideT' (And.intro hX3 hB3')
  have HW3 := hideT' hw3
  clear hB2 hw3 hX3 hB3' hT3 hM3
  go_wp2_with fail
  rw [← HW3.out]
  refine HG.out.mono ?_
  rintro e w4 ⟨rfl, hB4⟩
  have hB4' := HX3.out.2.trans (hB4.mono (by omega))
  have hX4 := HX3.out.1.below hB4 (by omega)
  have hs4 := hB4.size
  obtain ⟨⟨⟨⟨g0, g1⟩, g2, g3⟩, hT4, _⟩, hM4⟩ := HF.out w4 hB4'
  have hb1 : w4.cell? ⟨w2.heap.size, 1, none⟩ = some (slR b m.h.cells) := by rw [cell_of_row _ _ _ _ _ _ hX4]; rfl
  obtain ⟨q, hq⟩ : ∃ q, q = ygOk m := ⟨_, rfl⟩
  rw [← hq]
  have HQ := hideT' hq
  have H4 := hideT' (And.intro hT4 (And.intro hM4 hX4))
  clear hq hB4 hB4' hX4 f0 f1 f2 f3 hT4 hM4
  cases q with
  | false =>
    have HN : Hid (showD m x1 x2 = (⟨#[]⟩, false)) := showD_no (by rw [← HQ.out]; rfl)
    go_wp2
    go_ret2
    exact ⟨by rw [HN.out]; rfl, H4.out.1⟩
  | true =>
  have hok : ygOk m = true := HQ.out.symm
  obtain ⟨hl1, _, _, hcl, _⟩ := sndOk_all (ygOk_sndD hok)
  have HCL := hideT' hcl
  have HH := hideT' (hasCell_any w2.heap.size (some ⟨b, 0, none⟩) m.h.cells.length m.h.cells.length x1 w4 hb1 (by omega))
  clear hok hcl
  go_wp2_with fail
  refine HH.out.mono ?_
  rintro e w5 ⟨rfl, rfl⟩
  obtain ⟨q2, hq2⟩ : ∃ q, q = rootOk m.h.cells.length x1 := ⟨_, rfl⟩
  rw [← hq2]
  have HQ2 := hideT' hq2
  clear hq2
  cases q2 with
  | false =>
    have HN : Hid (showD m x1 x2 = (⟨#[]⟩, false)) := showD_no (by rw [← HQ.out, ← HQ2.out]; rfl)
    go_wp2
    go_ret2
    exact ⟨by rw [HN.out]; rfl, H4.out.1⟩
  | true =>
  by_cases h0 : 0 ≤ x2
  · by_cases h10 : x2 ≤ 10
    · obtain ⟨i, hi, rfl⟩ : ∃ i : Nat, i < m.h.cells.length ∧ x1 = (i : Int) := by
        have := HQ2.out.symm
        unfold rootOk at this
        simp only [Bool.and_eq_true, decide_eq_true_eq] at this
        exact ⟨x1.toNat, by omega, by omega⟩
      obtain ⟨dp, rfl⟩ : ∃ dp : Nat, x2 = (dp : Int) := ⟨x2.toNat, by omega⟩
      have HN : Hid (showD m (i : Int) (dp : Int) = (deepB m.h.cells dp i, true)) := by
        unfold Hid
        rw [showD_yes (by rw [← HQ.out, ← HQ2.out, decide_eq_true h0, decide_eq_true h10]; rfl)]; rfl
      have hn0 : ¬ (dp : Int) < 0 := by omega
      have hn10 : ¬ (10 : Int) < (dp : Int) := by omega
      have hp : 24 * 2 ^ dp ≤ 24576 := by
        have : 2 ^ dp ≤ 2 ^ 10 := Nat.pow_le_pow_right (by decide) (by omega)
        have e : (2 : Nat) ^ 10 = 1024 := by decide
        omega
      have HC := hideT' (appendDeep_any m.h.cells HCL.out hl1 HRG.out w2.heap.size (some ⟨b, 0, none⟩) m.h.cells.length dp (by omega) i hi w5.heap.size (.slice none 0 0) [] w5 (by have := H4.out.2.2.lt; omega) (Nat.le_refl _) (fun g e => by cases e; exact H4.out.2.1.lt.1) hb1 H4.out.2.1.rd.1.1 (World.ownsRow_nil _ _ _ _) (by simp; omega) ((HT.out.on H4.out.1).up H4.out.1.size))
      have hTs := H4.out.1.size
      clear hp
      go_wp2_with fail
      refine HC.out.mono ?_
      rintro e w6 ⟨⟨v6, rfl, hown⟩, hB6, _⟩
      have hB6' := H4.out.1.trans (hB6.mono hTs)
      rw [List.nil_append] at hown
      have hcv := convH_own hown
      have hfin : (⟨(deepT m.h.cells dp i).toArray⟩ : ByteArray) = deepB m.h.cells dp i := rfl
      rw [hfin] at hcv
      clear hown hB6 hfin
      go_wp2
      go_ret2
      exact ⟨by rw [HN.out]; rfl, hB6'⟩
    · have HN : Hid (showD m x1 x2 = (⟨#[]⟩, false)) := showD_no (by rw [decide_eq_false h10]; simp)
      have hn0 : ¬ x2 < 0 := by omega
      have hn10 : (10 : Int) < x2 := by omega
      go_wp2
      go_ret2
      exact ⟨by rw [HN.out]; rfl, H4.out.1⟩
  · have HN : Hid (showD m x1 x2 = (⟨#[]⟩, false)) := showD_no (by rw [decide_eq_false h0]; simp)
    have hn0 : x2 < 0 := by omega
    go_wp2
    go_ret2
    exact ⟨by rw [HN.out]; rfl, H4.out.1⟩

set_option maxRecDepth 100000 in
set_option maxHeartbeats 4000000 in
theorem specShowDeep_any (m : Yg) (x1 x2 : Int) (o1 o2 o3 : Option Addr) (c1 c2 c3 : Nat) (w : World) (hs : YgSmall m 1048576) (hM : YgRd w (.slice o1 m.h.cells.length c1) (.slice o2 m.h.roots.length c2) (.slice o3 m.noted.length c3) m) (hr : clRange m.h.cells) :
    Calls Tryd.prog 10 #[.agg #[.int .i64 m.h.old, .slice o1 m.h.cells.length c1, .slice o2 m.h.roots.length c2, .slice o3 m.noted.length c3], .int .i64 x1, .int .i64 x2] w fun e w' => e = .returned (.tuple #[.string (showD m x1 x2).1, .bool (showD m x1 x2).2]) ∧ Below w.heap.size w w' := by
  have hB : Below w.heap.size w (w.alloc (.cells #[.int .i64 m.h.old, .slice o1 m.h.cells.length c1, .slice o2 m.h.roots.length c2, .slice o3 m.noted.length c3] 31)) := (Below.refl _ _).alloc (Nat.le_refl _) _
  have HF : Hid (∀ w', Below (w.heap.size + 1) (w.alloc (.cells #[.int .i64 m.h.old, .slice o1 m.h.cells.length c1, .slice o2 m.h.roots.length c2, .slice o3 m.noted.length c3] 31)) w' → w'.cell? ⟨w.heap.size, 1, none⟩ = some (.slice o1 m.h.cells.length c1)) := by
    intro w' h
    have hr := RowAt.below (RowAt.new w 31 #[.int .i64 m.h.old, .slice o1 m.h.cells.length c1, .slice o2 m.h.roots.length c2, .slice o3 m.noted.length c3]) h (by omega)
    rw [cell_of_row w' _ _ _ _ _ hr]; rfl
  have HG := hideT' (specGoodYoung_any m _ _ _ _ hs hs.2 (hM.below hB))
  have HM := hideT' hM
  have HR := hideT' hr
  have HB := hideT' hB
  clear hM hr hB hs
  go_enter Tryd.func10, Tryd.ntmps10
  go_wp2_with fail
  refine HG.out.mono ?_
  rintro e w1 ⟨rfl, hB1⟩
  have hS1 := HF.out _ (hB1.mono (by simp))
  have hB1' := HB.out.trans (hB1.mono (by simp))
  obtain ⟨q, hq⟩ : ∃ q, q = ygOk m := ⟨_, rfl⟩
  rw [← hq]
  have HQ := hideT' hq
  clear hq hB1
  cases q with
  | false =>
    have HN : Hid (showD m x1 x2 = (⟨#[]⟩, false)) := showD_no (by rw [← HQ.out]; rfl)
    go_wp2
    go_ret2
    exact ⟨by rw [HN.out]; rfl, hB1'⟩
  | true =>
  have hok : ygOk m = true := HQ.out.symm
  obtain ⟨hl1, _, _, hcl, _⟩ := sndOk_all (ygOk_sndD hok)
  have HCL := hideT' hcl
  clear hok hcl
  go_wp2_with fail
  refine (l1In_any x1 0 ((m.h.cells.length : Int) - 1) _).mono ?_
  rintro e w2 ⟨rfl, rfl⟩
  obtain ⟨q2, hq2⟩ : ∃ q, q = (decide ((0 : Int) ≤ x1) && decide (x1 ≤ (m.h.cells.length : Int) - 1)) := ⟨_, rfl⟩
  rw [← hq2]
  have HQ2 : Hid (q2 = rootOk m.h.cells.length x1) := hq2
  clear hq2
  cases q2 with
  | false =>
    have HN : Hid (showD m x1 x2 = (⟨#[]⟩, false)) := showD_no (by rw [← HQ.out, ← HQ2.out]; rfl)
    go_wp2
    go_ret2
    exact ⟨by rw [HN.out]; rfl, hB1'⟩
  | true =>
  go_wp2_with fail
  refine (l1In_any x2 0 10 _).mono ?_
  rintro e w3 ⟨rfl, rfl⟩
  obtain ⟨q3, hq3⟩ : ∃ q, q = (decide ((0 : Int) ≤ x2) && decide (x2 ≤ (10 : Int))) := ⟨_, rfl⟩
  rw [← hq3]
  have HQ3 := hideT' hq3
  clear hq3
  cases q3 with
  | false =>
    have HN : Hid (showD m x1 x2 = (⟨#[]⟩, false)) := showD_no (by rw [← HQ.out, ← HQ2.out, ← HQ3.out]; rfl)
    go_wp2
    go_ret2
    exact ⟨by rw [HN.out]; rfl, hB1'⟩
  | true =>
  obtain ⟨i, hi, rfl⟩ : ∃ i : Nat, i < m.h.cells.length ∧ x1 = (i : Int) := by
    have := HQ2.out.symm
    unfold rootOk at this
    simp only [Bool.and_eq_true, decide_eq_true_eq] at this
    exact ⟨x1.toNat, by omega, by omega⟩
  obtain ⟨dp, rfl, hdp⟩ : ∃ dp : Nat, x2 = (dp : Int) ∧ dp ≤ 10 := by
    have := HQ3.out.symm
    simp only [Bool.and_eq_true, decide_eq_true_eq] at this
    exact ⟨x2.toNat, by omega, by omega⟩
  have HN : Hid (showD m (i : Int) (dp : Int) = (deepB m.h.cells dp i, true)) := by
    unfold Hid
    rw [showD_yes (by rw [← HQ.out, ← HQ2.out, ← HQ3.out]; rfl)]; rfl
  have HC := hideT' (lhShow_any m.h.cells HCL.out hl1 HR.out dp hdp i _ _ hi (HM.out.below hB1').1.1)
  go_wp2_with fail
  refine HC.out.mono ?_
  rintro e w4 ⟨rfl, hB4⟩
  have hB4' := hB1'.trans (hB4.mono hB1'.size)
  go_wp2
  go_ret2
  exact ⟨by rw [HN.out]; rfl, hB4'⟩
end Go.Proofs.YtelciainidklgaaDoor
