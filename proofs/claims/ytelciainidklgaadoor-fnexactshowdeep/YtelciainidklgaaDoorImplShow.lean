/-
  What impl's appendCell adds, and what ShowCell answers.
-/
import Derived.Test.YtelciainidklgaaDoorImplGood
import Derived.Test.YtelciainidklgaaDoorSpecShow
import Derived.Test.YtelciainidklgaaDoorHeapTab
import Derived.Test.YtelciainidklgaaDoorBaseLate
import Derived.Test.YtelciainidklgaaDoorRoundHeld
import Derived.Test.YtelciainidklgaaDoorHeapMove
import Derived.Lib.ConvBytes
namespace Go.Proofs.YtelciainidklgaaDoor
open Go.RowKit BL
set_option linter.unusedVariables false

/-- The whole text of a cell, however long; the first number bounds the depth. -/
def fullF (cs : List Cl) : Nat → Nat → List UInt8
  | 0, _ => []
  | f + 1, i => if (cs.getD i default).1 then Lib.itoa (cs.getD i default).2.1 else 40 :: (fullF cs f (cs.getD i default).2.2.1.toNat ++ 32 :: (fullF cs f (cs.getD i default).2.2.2.toNat ++ [41]))
def fullC (cs : List Cl) (i : Nat) : List UInt8 := fullF cs (i + 1) i
theorem fullF_fuel {cs : List Cl} (hok : clsOk 0 cs = true) : ∀ (f g i : Nat), i < cs.length → i < f → i < g → fullF cs f i = fullF cs g i := by
  intro f
  induction f with
  | zero => intro g i _ h; omega
  | succ f ih =>
    intro g i hi hf hg
    cases g with
    | zero => omega
    | succ g =>
      rw [fullF, fullF]
      cases hp : (cs.getD i default).1 with
      | true => rfl
      | false =>
        obtain ⟨_, a, b, ha, hb, hai, hbi⟩ := pair_at hok hi hp
        rw [ha, hb]
        simp only [Int.toNat_natCast]
        rw [ih g a (by omega) (by omega) (by omega), ih g b (by omega) (by omega) (by omega)]
theorem fullC_leaf {cs : List Cl} {i : Nat} (h : (cs.getD i default).1 = true) : fullC cs i = Lib.itoa (cs.getD i default).2.1 := by
  rw [fullC, fullF, if_pos h]
theorem fullC_pair {cs : List Cl} (hok : clsOk 0 cs = true) {i a b : Nat} (hi : i < cs.length) (h : (cs.getD i default).1 = false) (ha : (cs.getD i default).2.2.1 = (a : Int)) (hb : (cs.getD i default).2.2.2 = (b : Int)) (hai : a < i) (hbi : b < i) :
    fullC cs i = 40 :: (fullC cs a ++ 32 :: (fullC cs b ++ [41])) := by
  rw [fullC, fullF, if_neg (by simp only [h]; simp), ha, hb]
  simp only [Int.toNat_natCast]
  rw [fullF_fuel hok i (a + 1) a (by omega) hai (by omega), fullF_fuel hok i (b + 1) b (by omega) hbi (by omega)]
  rfl
/-- The model's text is the whole one, or both are too long. -/
theorem show_full {cs : List Cl} (hok : clsOk 0 cs = true) : ∀ i, i < cs.length → showC cs i = fullC cs i ∨ (500 < (showC cs i).length ∧ 500 < (fullC cs i).length) := by
  intro i
  induction i using Nat.strongRecOn with
  | ind i ih =>
    intro hi
    cases hp : (cs.getD i default).1 with
    | true => left; rw [showC_leaf hp, fullC_leaf hp]
    | false =>
      obtain ⟨_, a, b, ha, hb, hai, hbi⟩ := pair_at hok hi hp
      rw [showC_pair hok hi hp ha hb hai hbi, fullC_pair hok hi hp ha hb hai hbi]
      have h1 := ih a hai (by omega)
      have h2 := ih b hbi (by omega)
      rcases h1 with h1 | ⟨h1, h1'⟩
      · rw [h1]
        by_cases hl : 500 < (fullC cs a).length + 1
        · right
          rw [if_pos hl]
          simp only [List.length_cons, List.length_append, List.length_nil]
          omega
        · rw [if_neg hl]
          rcases h2 with h2 | ⟨h2, h2'⟩
          · left; rw [h2]
          · right
            simp only [List.length_cons, List.length_append, List.length_nil]
            omega
      · right
        rw [if_pos (by omega)]
        simp only [List.length_cons, List.length_append, List.length_nil]
        omega

/-- What an added text says: whether it still fits, and then what it is. -/
def AppC (t full : List UInt8) (N B : Nat) (w : World) (e : Ending) (w' : World) : Prop :=
  (∃ v' t' ok, e = .returned (.tuple #[v', .bool ok]) ∧ w'.ownsRow B 5 1 v' t'.length (Lib.byteCells t') ∧ ok = decide ((t ++ full).length ≤ 500) ∧ (ok = true → t' = t ++ full) ∧ t'.length ≤ N) ∧ Below B w w' ∧ Lib.OthersKept 5 none w w'
theorem bytes_snoc (t : List UInt8) (c : UInt8) : Lib.byteCells t ++ [.int .u8 c.toNat] = Lib.byteCells (t ++ [c]) := by
  rw [Lib.byteCells_append]; rfl
theorem kept_grown {e : TypeId} {a w w' : World} {B n s : Nat} {v : Value} {xs : List Value} (h : Lib.OthersKept e none a w) (hg : w.grownBy w' v.ownBlock) (hown : w.ownsRow B e s v n xs) : Lib.OthersKept e none a w' :=
  h.grown hg (fun g hgg => by
    rcases hown.2 with ⟨rfl, _⟩ | ⟨g', cap, cur, rfl, _, hc, _⟩
    · cases hgg
    · cases hgg; exact ⟨_, _, hc⟩)
theorem ownY_below {w w' : World} {B C n s : Nat} {T : TypeId} {v : Value} {xs : List Value} (h : w.ownsRow B T s v n xs) (hB : Below C w w') (hC : w.heap.size ≤ C) : w'.ownsRow B T s v n xs := by
  refine ⟨h.1, ?_⟩
  rcases h.2 with h1 | ⟨g, cap, cur, h1, h2, h3, h4⟩
  · exact .inl h1
  · have hlt : g < w.heap.size := (Array.getElem?_eq_some_iff.1 h3).1
    exact .inr ⟨g, cap, cur, h1, h2, by rw [hB.block g (by omega)]; exact h3, h4⟩

set_option maxHeartbeats 4000000 in
set_option maxRecDepth 100000 in
theorem appendCell_any (cs : List Cl) (hok : clsOk 0 cs = true) (hl : cs.length ≤ 200) (hr : clRange cs) (hb : Nat) (o1 : Option Addr) (c1 : Nat) : ∀ (i : Nat), i < cs.length → ∀ (B : Nat) (v : Value) (t : List UInt8) (w : World), hb < B → B ≤ w.heap.size → (∀ g : Nat, o1 = some ⟨g, 0, none⟩ → g < B) → w.cell? ⟨hb, 1, none⟩ = some (.slice o1 cs.length c1) → InR w (.slice o1 cs.length c1) cellL 4 cs → w.ownsRow B 5 1 v t.length (Lib.byteCells t) → t.length ≤ 1000000 - 23 * (i + 1) → TabH B w →
    Calls Tryd.prog 54 #[.pointer (some ⟨hb, 0, none⟩), v, .int .i64 (i : Int)] w fun e w' => AppC t (fullC cs i) (max t.length 500 + 23 * (i + 1)) B w e w' := by
  intro i
  induction i using Nat.strongRecOn with
  | ind i ih =>
    intro hi B v t w hbB hBw hgB hc hin hown htl hT
    have hpair := pair_at hok hi
    obtain ⟨d, hd⟩ : ∃ d, d = cs.getD i default := ⟨_, rfl⟩
    have hrg := hr i hi
    rw [← hd] at hpair hrg
    obtain ⟨lf, kk, aa, bb⟩ := d
    obtain ⟨g, hgo, q0, q1, q2, q3⟩ := hin.cells4 hi hd
    subst hgo
    have hil : (i : Int) < (cs.length : Int) := by omega
    have hz := zero_cell.1
    obtain ⟨ov, cv, hv⟩ := own_formX hown
    subst hv
    obtain ⟨i0, hi0, hz0, hz1, hz2⟩ := info_parts infoH_u8
    have HIN := hideT' hin
    have HOW := hideT' hown
    have HT := hideT' hT
    have HD := hideT' hd
    have hglt := hgB g rfl
    have hBn : Below w.heap.size w (w.alloc (.cells #[.bool lf, .int .i64 kk, .int .i64 aa, .int .i64 bb] 99)) := (Below.refl _ _).alloc (Nat.le_refl _) _
    cases lf with
    | true =>
      have HFU : Hid (fullC cs i = Lib.itoa kk) := by unfold Hid; rw [fullC_leaf (by rw [← hd]), ← hd]
      have hil2 := itoa_len hrg.1 hrg.2
      simp only at hrg hil2
      have HC := hideT' (Tryd.strconv_AppendInt_10 B t.length kk hrg.1 hrg.2 _ _ (w.alloc (.cells #[.bool true, .int .i64 kk, .int .i64 aa, .int .i64 bb] 99)) (hown.alloc _) (by simp; omega) (by omega) (hT.on ((Below.refl _ _).alloc hBw _)))
      have HB0 : Hid (Below B w (w.alloc (.cells #[.bool true, .int .i64 kk, .int .i64 aa, .int .i64 bb] 99))) := (Below.refl _ _).alloc hBw _
      clear hpair hd hin hown hT hBn ih
      go_enter Tryd.func54, Tryd.ntmps54
      go_wp2_with fail
      refine HC.out.mono ?_
      rintro e w1 ⟨v1, rfl, hown1, hB1, hk1⟩
      obtain ⟨ov1, cv1, hv1⟩ := own_formX hown1
      subst hv1
      obtain ⟨z, hz'⟩ : ∃ z, z = t.length + (Lib.itoa kk).length := ⟨_, rfl⟩
      rw [← hz'] at hown1 ⊢
      have HZ := hideT' hz'
      have HO1 := hideT' hown1
      have HK : Hid (Lib.OthersKept 5 none w w1) := (Lib.OthersKept.alloc (Lib.OthersKept.refl 5 none w) _).trans hk1
      have HB1 := hideT' (HB0.out.trans hB1)
      clear hz' hown1 hk1 hB1
      go_wp2
      go_ret2
      refine ⟨⟨_, t ++ Lib.itoa kk, decide ((z : Int) ≤ (500 : Int)), rfl, ?_, ?_, fun _ => by rw [HFU.out], ?_⟩, HB1.out, HK.out⟩
      · rw [List.length_append, ← HZ.out, Lib.byteCells_append]; exact HO1.out
      · rw [HFU.out, List.length_append, ← HZ.out]
        by_cases hle : z ≤ 500
        · rw [decide_eq_true hle, decide_eq_true (by omega)]
        · rw [decide_eq_false hle, decide_eq_false (by omega)]
      · rw [List.length_append, ← HZ.out]; have := HZ.out; omega
    | false =>
      obtain ⟨hn0, A, C, hA, hC, hAi, hCi⟩ := hpair rfl
      simp only at hn0 hA hC
      have HFU := hideT' (fullC_pair hok hi (by rw [← hd]) (by rw [← hd]; exact hA) (by rw [← hd]; exact hC) hAi hCi)
      subst hn0 hA hC
      have hB0 : Below B w (w.alloc (.cells #[.bool false, .int .i64 0, .int .i64 (A : Int), .int .i64 (C : Int)] 99)) := (Below.refl _ _).alloc hBw _
      have HRC1 := hideT' (RowAt.new w 99 #[.bool false, .int .i64 0, .int .i64 (A : Int), .int .i64 (C : Int)])
      have HOW1 := hideT' (hown.alloc (.cells #[.bool false, .int .i64 0, .int .i64 (A : Int), .int .i64 (C : Int)] 99))
      have HBW1 := hideT' (And.intro hB0 (Lib.OthersKept.alloc (Lib.OthersKept.refl 5 none w) (.cells #[.bool false, .int .i64 0, .int .i64 (A : Int), .int .i64 (C : Int)] 99)))
      have HTL1 : Hid (t.length + 23 * (i + 1) ≤ 1000000) := by unfold Hid; omega
      have HINB : Hid (∀ w', Below B w w' → InR w' (.slice (some ⟨g, 0, none⟩) cs.length c1) cellL 4 cs) := fun w' h => by
        obtain ⟨o', cap', e, hh⟩ := HIN.out
        refine ⟨o', cap', e, fun hne => ?_⟩
        obtain ⟨g', hg', hlt, hcc⟩ := hh hne
        cases e
        cases hg'
        exact ⟨g, rfl, Nat.lt_of_lt_of_le hlt h.size, fun x j u hx hu => (h.cell (p := ⟨g, x * 4 + j, none⟩) hglt).trans (hcc x j u hx hu)⟩
      have IH := hideT' ih
      have hgB' := hgB
      clear hpair hd hin hown hT hBn hB0 ih
      go_enter Tryd.func54, Tryd.ntmps54
      go_wp2_with fail
      obtain ⟨w1, hw1⟩ : ∃ w1, w1 = w.alloc (.cells #[.bool false, .int .i64 0, .int .i64 (A : Int), .int .i64 (C : Int)] 99) := ⟨_, rfl⟩
      rw [← hw1] at HRC1 HOW1 HBW1 ⊢
      clear hw1
      have hS1 : RowAt w1.drew w.heap.size 99 #[.bool false, .int .i64 0, .int .i64 (A : Int), .int .i64 (C : Int)] := HRC1.out
      refine held_begin (fun w' => RowAt w' w.heap.size 99 #[.bool false, .int .i64 0, .int .i64 (A : Int), .int .i64 (C : Int)]) (by kernel_rfl) ?_
      refine held_val 0 (some 28) rfl rfl (by kernel_rfl) (by kernel_rfl) (by kernel_rfl) noPanic_put rfl (.pointer (some ⟨hb, 0, none⟩)) (fun _ => by go_simp) hS1 ?_
      simp only [Act.put, List.setIfInBounds_toArray, List.set_cons_zero, List.set_cons_succ]
      refine held_val 1 (some 29) rfl rfl (by kernel_rfl) (by kernel_rfl) (by kernel_rfl) noPanic_put rfl (.slice ov t.length cv) (fun _ => by go_simp) hS1 ?_
      simp only [Act.put, List.setIfInBounds_toArray, List.set_cons_zero, List.set_cons_succ]
      refine held_val 4 (some 32) rfl rfl (by kernel_rfl) (by kernel_rfl) (by kernel_rfl) noPanic_put rfl (.pointer (some ⟨w.heap.size, 2, none⟩)) (fun _ => by go_simp) hS1 ?_
      simp only [Act.put, List.setIfInBounds_toArray, List.set_cons_zero, List.set_cons_succ]
      refine held_valS 5 (some 33) rfl rfl (by kernel_rfl) (by kernel_rfl) (by kernel_rfl) noPanic_put rfl (.int .i64 (A : Int)) (fun w' h => run_cell1 (.tmp 32) 3 rfl ⟨w.heap.size, 2, none⟩ rfl _ Tryd.underlying3 rfl (by rw [cell_of_row w' _ _ _ _ _ h]; rfl)) hS1 ?_
      simp only [Act.put, List.setIfInBounds_toArray, List.set_cons_zero, List.set_cons_succ]
      refine held_ready 2 (some 30) (by kernel_rfl) rfl rfl rfl (.slice (some ⟨w1.heap.size, 0, none⟩) 1 1) (w1.drew.alloc (.cells #[.int .u8 40] 5)) (by go_simp) (RowAt.old hS1 _) ?_
      simp only [Act.put, List.setIfInBounds_toArray, List.set_cons_zero, List.set_cons_succ]
      refine held_step 3 (by kernel_rfl) rfl rfl fun K3 hK3 => ?_
      have hO0 : w1.drew.ownsRow B 5 1 (.slice ov t.length cv) t.length (Lib.byteCells t) := HOW1.out
      refine append_own3_wp _ _ _ 63 rfl B 5 i0 (.int .u8 0) 1 1 Tryd.underlying63 hi0 hz0 hz1 hz2 rfl (by decide) (.slice ov t.length cv) t.length _ rfl (hO0.alloc _) ⟨w1.heap.size, 0, none⟩ 1 1 [.int .u8 40] rfl rfl (cell_one_new w1.drew _ _) (byteH_one _) (by decide) (by have := HTL1.out; unfold maxLen; omega) (by have := HTL1.out; omega) (by rw [World.size_alloc]; have := HBW1.out.1.size; show B ≤ w1.heap.size + 1; omega) ?_
      intro v3 w3 hown3 hg3 _
      obtain ⟨ov3, cv3, hv3⟩ := own_formX hown3
      subst hv3
      have hB3 : Below B w w3 := (((HBW1.out.1.drew).alloc (by have := HBW1.out.1.size; show B ≤ w1.heap.size; omega) _)).grown hg3 (by rw [World.size_alloc]; have := HBW1.out.1.size; show B ≤ w1.heap.size + 1; omega) (fun k e => (HOW1.out.lt k e).1)
      have hk3 : Lib.OthersKept 5 none w w3 := kept_grown (Lib.OthersKept.alloc (Lib.OthersKept.drew HBW1.out.2) _) hg3 (hO0.alloc _)
      have hR3 : RowAt w3 w.heap.size 99 #[.bool false, .int .i64 0, .int .i64 (A : Int), .int .i64 (C : Int)] := RowAt.grown (RowAt.old hS1 _) hg3 (fun e => own_row_apart (by decide) hO0 hS1 e.symm)
      have hs3 := hB3.size
      refine hK3.out _ _ hR3 ?_
      simp only [Act.put, List.setIfInBounds_toArray]
      have hown3' : w3.ownsRow B 5 1 (.slice ov3 (t ++ [40]).length cv3) (t ++ [40]).length (Lib.byteCells (t ++ [40])) := by rw [List.length_append, List.length_singleton, ← bytes_snoc]; exact hown3
      have hca := IH.out A hAi (by omega) B (.slice ov3 (t ++ [40]).length cv3) (t ++ [40]) w3 hbB (by omega) hgB ((hB3.cell (p := ⟨hb, 1, none⟩) hbB).trans hc) (HINB.out w3 hB3) hown3' (by have := HTL1.out; rw [List.length_append, List.length_singleton]; omega) (HT.out.on hB3)
      rw [List.length_append, List.length_singleton] at hca
      refine held_call 6 (some 34) (by kernel_rfl) rfl rfl rfl 54 #[.pointer (some ⟨hb, 0, none⟩), .slice ov3 (t.length + 1) cv3, .int .i64 (A : Int)] (by go_simp) _ hca ?_
      rintro e w4 ⟨⟨v4, t4, ok1, rfl, hown4, hok4, ht4, hl4⟩, hB4, hk4⟩
      obtain ⟨ov4, cv4, hv4⟩ := own_formX hown4
      subst hv4
      have hR4 := rowH_others hR3 hk4 (by decide)
      refine ⟨_, rfl, hR4, ?_⟩
      simp only [Act.put]
      refine held_val 7 (some 27) rfl rfl (by kernel_rfl) (by kernel_rfl) (by kernel_rfl) noPanic_put rfl (.tuple #[.slice ov4 t4.length cv4, .bool ok1]) (fun _ => by go_simp) hR4 ?_
      simp only [Act.put]
      refine held_val 8 (some 35) rfl rfl (by kernel_rfl) (by kernel_rfl) (by kernel_rfl) noPanic_put rfl (.slice ov4 t4.length cv4) (fun _ => by go_simp) hR4 ?_
      simp only [Act.put]
      refine held_val 9 (some 36) rfl rfl (by kernel_rfl) (by kernel_rfl) (by kernel_rfl) noPanic_put rfl (.bool ok1) (fun _ => by go_simp) hR4 ?_
      simp only [Act.put]
      refine held_assign 10 (some 1) (by kernel_rfl) rfl rfl _ rfl rfl (.slice ov4 t4.length cv4) rfl hR4 ?_
      simp only [Act.put]
      refine held_assign 11 (some 9) (by kernel_rfl) rfl rfl _ rfl rfl (.bool ok1) rfl hR4 ?_
      simp only [Act.put]
      refine wpAnyH_done (by kernel_rfl) ?_ _
      refine NoPanic.normal ?_
      have HRC2 := hideT' hR4
      have HOW2 := hideT' hown4
      have HBW2 := hideT' (And.intro (hB3.trans hB4) (hk3.trans hk4))
      have HOK2 := hideT' hok4
      have HTT2 := hideT' ht4
      have HLL2 := hideT' hl4
      have hb2 : B ≤ w4.heap.size := by have := HBW2.out.1.size; omega
      clear hS1 hO0 hown3 hown3' hg3 hB3 hk3 hR3 hca hown4 hok4 ht4 hl4 hB4 hk4 hR4 q0 q1 q2 q3 hK3 hs3
      cases ok1 with
      | false =>
        have hno : ¬ (t ++ [40] ++ fullC cs A).length ≤ 500 := of_decide_eq_false HOK2.out.symm
        go_wp2_with (at_builtin; refine wpList_append_own _ rfl _ _ 63 rfl B 5 i0 (.int .u8 0) 1 1 Tryd.underlying63 hi0 hz0 hz1 hz2 rfl (by decide) _ _ _ rfl (HOW2.out.alloc _) ⟨w4.heap.size, 0, none⟩ 1 1 [.int .u8 41] rfl rfl (cell_one_new _ _ _) (byteH_one _) (by have := HLL2.out; unfold maxLen; omega) (by have := HLL2.out; omega) (by simp; have := HBW2.out.1.size; omega) ?_; intro v9 w9 hown9 hg9 _; obtain ⟨ov9, cv9, hv9⟩ := own_formX hown9; subst hv9)
        go_ret2
        have hb9 : Below B w w9 := ((HBW2.out.1).alloc (by have := HBW2.out.1.size; omega) _).grown hg9 (by rw [World.size_alloc]; have := HBW2.out.1.size; omega) (fun k e => (HOW2.out.lt k e).1)
        have hk9 : Lib.OthersKept 5 none w w9 := kept_grown (Lib.OthersKept.alloc HBW2.out.2 _) hg9 (HOW2.out.alloc _)
        have ho9 : w9.ownsRow B 5 1 (.slice ov9 (t4.length + 1) cv9) (t4 ++ [41]).length (Lib.byteCells (t4 ++ [41])) := by rw [List.length_append, List.length_singleton, ← bytes_snoc]; exact hown9
        refine ⟨⟨_, t4 ++ [41], false, rfl, ho9, ?_, fun h => by (cases h), ?_⟩, hb9, hk9⟩
        · rw [decide_eq_false]
          intro hle
          apply hno
          rw [HFU.out] at hle
          simp only [List.length_append, List.length_cons, List.length_nil] at hle ⊢
          omega
        · rw [List.length_append, List.length_singleton]
          have := HLL2.out
          omega
      | true =>
        have hyes : (t ++ [40] ++ fullC cs A).length ≤ 500 := of_decide_eq_true HOK2.out.symm
        have htt := HTT2.out rfl
        have HTL2 : Hid (t4.length + 23 * (i + 1) ≤ 1000000) := by unfold Hid; rw [htt]; omega
        have HYES := hideT' (And.intro hyes htt)
        clear hyes htt
        obtain ⟨t5, ht5⟩ : ∃ t5, t5 = t4 := ⟨_, rfl⟩
        rw [← ht5] at HOW2 HTL2 HYES ⊢
        obtain ⟨w5, hw5⟩ : ∃ w5, w5 = w4 := ⟨_, rfl⟩
        rw [← hw5] at HOW2 HRC2 HBW2 ⊢
        obtain ⟨ov5, hov5⟩ : ∃ x, x = ov4 := ⟨_, rfl⟩
        obtain ⟨cv5, hcv5⟩ : ∃ x, x = cv4 := ⟨_, rfl⟩
        rw [← hov5, ← hcv5] at HOW2 ⊢
        clear ht5 hw5 hov5 hcv5 hb2 HLL2 HOK2 HTT2
        go_wp2_with fail
        have hS2 : RowAt w5.drew w.heap.size 99 #[.bool false, .int .i64 0, .int .i64 (A : Int), .int .i64 (C : Int)] := HRC2.out
        refine held_begin (fun w' => RowAt w' w.heap.size 99 #[.bool false, .int .i64 0, .int .i64 (A : Int), .int .i64 (C : Int)]) (by kernel_rfl) ?_
        refine held_val 0 (some 39) rfl rfl (by kernel_rfl) (by kernel_rfl) (by kernel_rfl) noPanic_put rfl (.pointer (some ⟨hb, 0, none⟩)) (fun _ => by go_simp) hS2 ?_
        simp only [Act.put, List.setIfInBounds_toArray, List.set_cons_zero, List.set_cons_succ]
        refine held_val 1 (some 40) rfl rfl (by kernel_rfl) (by kernel_rfl) (by kernel_rfl) noPanic_put rfl (.slice ov5 t5.length cv5) (fun _ => by go_simp) hS2 ?_
        simp only [Act.put, List.setIfInBounds_toArray, List.set_cons_zero, List.set_cons_succ]
        refine held_val 4 (some 43) rfl rfl (by kernel_rfl) (by kernel_rfl) (by kernel_rfl) noPanic_put rfl (.pointer (some ⟨w.heap.size, 3, none⟩)) (fun _ => by go_simp) hS2 ?_
        simp only [Act.put, List.setIfInBounds_toArray, List.set_cons_zero, List.set_cons_succ]
        refine held_valS 5 (some 44) rfl rfl (by kernel_rfl) (by kernel_rfl) (by kernel_rfl) noPanic_put rfl (.int .i64 (C : Int)) (fun w' h => run_cell1 (.tmp 43) 3 rfl ⟨w.heap.size, 3, none⟩ rfl _ Tryd.underlying3 rfl (by rw [cell_of_row w' _ _ _ _ _ h]; rfl)) hS2 ?_
        simp only [Act.put, List.setIfInBounds_toArray, List.set_cons_zero, List.set_cons_succ]
        refine held_ready 2 (some 41) (by kernel_rfl) rfl rfl rfl (.slice (some ⟨w5.heap.size, 0, none⟩) 1 1) (w5.drew.alloc (.cells #[.int .u8 32] 5)) (by go_simp) (RowAt.old hS2 _) ?_
        simp only [Act.put, List.setIfInBounds_toArray, List.set_cons_zero, List.set_cons_succ]
        refine held_step 3 (by kernel_rfl) rfl rfl fun K3 hK3 => ?_
        have hO0 : w5.drew.ownsRow B 5 1 (.slice ov5 t5.length cv5) t5.length (Lib.byteCells t5) := HOW2.out
        refine append_own3_wp _ _ _ 63 rfl B 5 i0 (.int .u8 0) 1 1 Tryd.underlying63 hi0 hz0 hz1 hz2 rfl (by decide) (.slice ov5 t5.length cv5) t5.length _ rfl (hO0.alloc _) ⟨w5.heap.size, 0, none⟩ 1 1 [.int .u8 32] rfl rfl (cell_one_new w5.drew _ _) (byteH_one _) (by decide) (by have := HTL2.out; unfold maxLen; omega) (by have := HTL2.out; omega) (by rw [World.size_alloc]; have := HBW2.out.1.size; show B ≤ w5.heap.size + 1; omega) ?_
        intro v3 w3 hown3 hg3 _
        obtain ⟨ov3, cv3, hv3⟩ := own_formX hown3
        subst hv3
        have hB3 : Below B w w3 := (((HBW2.out.1.drew).alloc (by have := HBW2.out.1.size; show B ≤ w5.heap.size; omega) _)).grown hg3 (by rw [World.size_alloc]; have := HBW2.out.1.size; show B ≤ w5.heap.size + 1; omega) (fun k e => (HOW2.out.lt k e).1)
        have hk3 : Lib.OthersKept 5 none w w3 := kept_grown (Lib.OthersKept.alloc (Lib.OthersKept.drew HBW2.out.2) _) hg3 (hO0.alloc _)
        have hR3 : RowAt w3 w.heap.size 99 #[.bool false, .int .i64 0, .int .i64 (A : Int), .int .i64 (C : Int)] := RowAt.grown (RowAt.old hS2 _) hg3 (fun e => own_row_apart (by decide) hO0 hS2 e.symm)
        have hs3 := hB3.size
        refine hK3.out _ _ hR3 ?_
        simp only [Act.put, List.setIfInBounds_toArray]
        have hown3' : w3.ownsRow B 5 1 (.slice ov3 (t5 ++ [32]).length cv3) (t5 ++ [32]).length (Lib.byteCells (t5 ++ [32])) := by rw [List.length_append, List.length_singleton, ← bytes_snoc]; exact hown3
        have hca := IH.out C hCi (by omega) B (.slice ov3 (t5 ++ [32]).length cv3) (t5 ++ [32]) w3 hbB (by omega) hgB ((hB3.cell (p := ⟨hb, 1, none⟩) hbB).trans hc) (HINB.out w3 hB3) hown3' (by have := HTL2.out; rw [List.length_append, List.length_singleton]; omega) (HT.out.on hB3)
        rw [List.length_append, List.length_singleton] at hca
        refine held_call 6 (some 45) (by kernel_rfl) rfl rfl rfl 54 #[.pointer (some ⟨hb, 0, none⟩), .slice ov3 (t5.length + 1) cv3, .int .i64 (C : Int)] (by go_simp) _ hca ?_
        rintro e w4 ⟨⟨v4, t4, ok2, rfl, hown4, hok4, ht4, hl4⟩, hB4, hk4⟩
        obtain ⟨ov4, cv4, hv4⟩ := own_formX hown4
        subst hv4
        have hR4 := rowH_others hR3 hk4 (by decide)
        refine ⟨_, rfl, hR4, ?_⟩
        simp only [Act.put]
        refine held_val 7 (some 38) rfl rfl (by kernel_rfl) (by kernel_rfl) (by kernel_rfl) noPanic_put rfl (.tuple #[.slice ov4 t4.length cv4, .bool ok2]) (fun _ => by go_simp) hR4 ?_
        simp only [Act.put]
        refine held_val 8 (some 46) rfl rfl (by kernel_rfl) (by kernel_rfl) (by kernel_rfl) noPanic_put rfl (.slice ov4 t4.length cv4) (fun _ => by go_simp) hR4 ?_
        simp only [Act.put]
        refine held_val 9 (some 47) rfl rfl (by kernel_rfl) (by kernel_rfl) (by kernel_rfl) noPanic_put rfl (.bool ok2) (fun _ => by go_simp) hR4 ?_
        simp only [Act.put]
        refine held_assign 10 (some 1) (by kernel_rfl) rfl rfl _ rfl rfl (.slice ov4 t4.length cv4) rfl hR4 ?_
        simp only [Act.put]
        refine held_assign 11 (some 9) (by kernel_rfl) rfl rfl _ rfl rfl (.bool ok2) rfl hR4 ?_
        simp only [Act.put]
        refine wpAnyH_done (by kernel_rfl) ?_ _
        refine NoPanic.normal ?_
        have HRC3 := hideT' hR4
        have HOW3 := hideT' hown4
        have HBW3 := hideT' (And.intro (hB3.trans hB4) (hk3.trans hk4))
        have HOK3 := hideT' hok4
        have HTT3 := hideT' ht4
        have HLL3 := hideT' hl4
        have hb3 : B ≤ w4.heap.size := by have := HBW3.out.1.size; omega
        have hl3 : t4.length ≤ 501 + 23 * i := by
          have h1 := HLL3.out
          have h2 := congrArg List.length HYES.out.2
          have h3 := HYES.out.1
          omega
        have HL3 := hideT' hl3
        clear hS2 hO0 hown3 hown3' hg3 hB3 hk3 hR3 hca hown4 hok4 ht4 hl4 hB4 hk4 hR4 hK3 hs3 hl3 HRC2 HOW2 HBW2
        cases ok2 with
        | false =>
          have hno : ¬ (t5 ++ [32] ++ fullC cs C).length ≤ 500 := of_decide_eq_false HOK3.out.symm
          go_wp2_with (at_builtin; refine wpList_append_own _ rfl _ _ 63 rfl B 5 i0 (.int .u8 0) 1 1 Tryd.underlying63 hi0 hz0 hz1 hz2 rfl (by decide) _ _ _ rfl (HOW3.out.alloc _) ⟨w4.heap.size, 0, none⟩ 1 1 [.int .u8 41] rfl rfl (cell_one_new _ _ _) (byteH_one _) (by have := HL3.out; unfold maxLen; omega) (by have := HL3.out; omega) (by simp; have := HBW3.out.1.size; omega) ?_; intro v9 w9 hown9 hg9 _; obtain ⟨ov9, cv9, hv9⟩ := own_formX hown9; subst hv9)
          go_ret2
          have hb9 : Below B w w9 := ((HBW3.out.1).alloc (by have := HBW3.out.1.size; omega) _).grown hg9 (by rw [World.size_alloc]; have := HBW3.out.1.size; omega) (fun k e => (HOW3.out.lt k e).1)
          have hk9 : Lib.OthersKept 5 none w w9 := kept_grown (Lib.OthersKept.alloc HBW3.out.2 _) hg9 (HOW3.out.alloc _)
          have ho9 : w9.ownsRow B 5 1 (.slice ov9 (t4.length + 1) cv9) (t4 ++ [41]).length (Lib.byteCells (t4 ++ [41])) := by rw [List.length_append, List.length_singleton, ← bytes_snoc]; exact hown9
          refine ⟨⟨_, t4 ++ [41], false, rfl, ho9, ?_, fun h => by (cases h), ?_⟩, hb9, hk9⟩
          · rw [decide_eq_false]
            intro hle
            apply hno
            rw [HFU.out] at hle
            rw [HYES.out.2]
            simp only [List.length_append, List.length_cons, List.length_nil] at hle ⊢
            omega
          · rw [List.length_append, List.length_singleton]
            have := HL3.out
            omega
        | true =>
          have htt := HTT3.out rfl
          have HTT := hideT' htt
          clear htt
          go_wp2_with (at_builtin; refine wpList_append_own _ rfl _ _ 63 rfl B 5 i0 (.int .u8 0) 1 1 Tryd.underlying63 hi0 hz0 hz1 hz2 rfl (by decide) _ _ _ rfl (HOW3.out.alloc _) ⟨w4.heap.size, 0, none⟩ 1 1 [.int .u8 41] rfl rfl (cell_one_new _ _ _) (byteH_one _) (by have := HL3.out; unfold maxLen; omega) (by have := HL3.out; omega) (by simp; have := HBW3.out.1.size; omega) ?_; intro v9 w9 hown9 hg9 _; obtain ⟨ov9, cv9, hv9⟩ := own_formX hown9; subst hv9)
          go_ret2
          have hb9 : Below B w w9 := ((HBW3.out.1).alloc (by have := HBW3.out.1.size; omega) _).grown hg9 (by rw [World.size_alloc]; have := HBW3.out.1.size; omega) (fun k e => (HOW3.out.lt k e).1)
          have hk9 : Lib.OthersKept 5 none w w9 := kept_grown (Lib.OthersKept.alloc HBW3.out.2 _) hg9 (HOW3.out.alloc _)
          have ho9 : w9.ownsRow B 5 1 (.slice ov9 (t4.length + 1) cv9) (t4 ++ [41]).length (Lib.byteCells (t4 ++ [41])) := by rw [List.length_append, List.length_singleton, ← bytes_snoc]; exact hown9
          have hfin : t4 ++ [41] = t ++ fullC cs i := by rw [HTT.out, HYES.out.2, HFU.out]; simp
          refine ⟨⟨_, t4 ++ [41], decide (((t4.length + 1 : Nat) : Int) ≤ (500 : Int)), rfl, ho9, ?_, fun _ => hfin, ?_⟩, hb9, hk9⟩
          · rw [← hfin, List.length_append, List.length_singleton]
            by_cases hle : t4.length + 1 ≤ 500
            · rw [decide_eq_true hle, decide_eq_true (by omega)]
            · rw [decide_eq_false hle, decide_eq_false (by omega)]
          · rw [List.length_append, List.length_singleton]
            have := HL3.out
            omega
end Go.Proofs.YtelciainidklgaaDoor
