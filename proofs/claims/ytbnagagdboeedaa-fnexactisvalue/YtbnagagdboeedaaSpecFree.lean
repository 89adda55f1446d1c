/-
  What lcFree and FreeIn of the model answer.
-/
import Derived.Test.YtbnagagdboeedaaTold
import Derived.Test.YtbnagagdboeedaaFreeMath
namespace Go.Proofs.Ytbnagagdboeedaa
open Go.RowKit BL
set_option linter.unusedVariables false

/-- Rows of marks. -/
abbrev bitL : Bool → List Value := fun x => [Value.bool x]
theorem bitL_len (x : Bool) : (bitL x).length = 1 := rfl
theorem bit_cell {w : World} {b : Nat} {ms : List Bool} (h : RecAt w b 4 bitL ms) {i : Nat} (hi : i < ms.length) : w.cell? ⟨b, i, none⟩ = some (.bool (ms.getD i false)) := by
  have := RecAt.cell (c := 1) h bitL_len i 0 hi (by decide)
  simpa [bitL] using this
theorem bit_set {w : World} {b : Nat} {ms : List Bool} (h : RecAt w b 4 bitL ms) (i : Nat) (x : Bool) : RecAt (w.setCell ⟨b, i, none⟩ (.bool x)) b 4 bitL (ms.set i x) := by
  have h1 := heap_setCell_same w b i _ _ (.bool x) h
  have e1 : ∀ l : List Bool, l.flatMap bitL = l.map Value.bool := fun l => by
    induction l with
    | nil => rfl
    | cons a l ih => rw [List.flatMap_cons, ih, List.map_cons]; rfl
  have e2 : ((ms.flatMap bitL).toArray).setIfInBounds i (.bool x) = ((ms.set i x).flatMap bitL).toArray := by
    rw [e1, e1, List.map_set]; simp
  rw [e2] at h1
  exact h1
theorem bit_froz {w : World} {b : Nat} {ms : List Bool} (h : RecAt w b 4 bitL ms) (i : Nat) : w.frozen? ⟨b, i, none⟩ = false := frozen_of_row w b i _ _ h
theorem info_bit : (Try.prog.info? 4).map (fun i => (i.zero, i.size, i.bytes)) = some (some (.bool false), 1, 1) := by kernel_rfl
theorem make_bit (n : Nat) (hn : n ≤ 1048576) (w : World) : (Instr.makeSlice 50 (.int .i64 (n : Int)) (.int .i64 (n : Int))).run Try.prog w = .ok (.slice (some ⟨w.heap.size, 0, none⟩) n n) (w.alloc (.cells ((List.replicate n false).flatMap bitL).toArray 4)) := by
  obtain ⟨i, hi, hzz⟩ := Option.map_eq_some_iff.1 info_bit
  simp only [Prod.mk.injEq] at hzz
  obtain ⟨hz, hs, hb⟩ := hzz
  have hr := run_make (P := Try.prog) w 50 4 i _ Try.underlying50 hi hz .i64 .i64 n n (by omega) (Int.le_refl _) (by rw [hb]; omega) (by omega)
  simp only [Int.toNat_natCast, hs] at hr
  rw [hr, ← made_rec bitL 1 bitL_len _ false (by rfl) n]
  rfl
def markF (bs : List Bool) (l : List Int) : List Bool := l.foldl (fun bs i => bs.set i.toNat true) bs
theorem markF_len : ∀ (l : List Int) (bs : List Bool), (markF bs l).length = bs.length
  | [], bs => rfl
  | i :: l, bs => by rw [markF, List.foldl_cons]; exact (markF_len l (bs.set i.toNat true)).trans (by simp)
theorem markF_app (bs : List Bool) (l k : List Int) : markF bs (l ++ k) = markF (markF bs l) k := by unfold markF; rw [List.foldl_append]
theorem markF_get : ∀ (l : List Int) (bs : List Bool) (i : Nat), i < bs.length → (∀ x ∈ l, 0 ≤ x) → (markF bs l).getD i false = (bs.getD i false || l.contains (i : Int))
  | [], bs, i, hi, _ => by simp [markF]
  | x :: l, bs, i, hi, hx => by
    have h0 := hx x (by simp)
    rw [show markF bs (x :: l) = markF (bs.set x.toNat true) l from rfl, markF_get l _ i (by simpa using hi) (fun y hy => hx y (List.mem_cons_of_mem _ hy))]
    have e : (bs.set x.toNat true).getD i false = (bs.getD i false || decide ((i : Int) = x)) := by
      by_cases h : x.toNat = i
      · have hxi : (i : Int) = x := by omega
        subst h
        simp [List.getD, hi, hxi]
      · have hxi : ¬ (i : Int) = x := by omega
        simp [List.getD, h, hxi]
    rw [e, List.contains_cons, Bool.or_assoc]
    rfl
def ownF (t : Lm) (m : Nat) : List Int := match t with | .var n => if (m : Int) ≤ n then [n - m] else [] | _ => []
theorem free_kids (t : Lm) (m : Nat) : t.free m = ownF t m ++ t.kids.flatMap (fun s => s.free ((m + t.lams : Nat) : Int)) := by
  cases t with
  | var n => simp [Lm.free, ownF, Lm.kids]
  | lam t => simp [Lm.free, ownF, Lm.kids, Lm.lams]
  | app s t => simp [Lm.free, ownF, Lm.kids, Lm.lams]
theorem kid_ok {t s : Lm} (h : t.ok = true) (hs : s ∈ t.kids) : s.ok = true := by
  cases t with
  | var n => simp [Lm.kids] at hs
  | lam t => simp [Lm.kids] at hs; subst hs; exact h
  | app p q => simp only [Lm.ok, Bool.and_eq_true] at h; simp [Lm.kids] at hs; rcases hs with rfl | rfl; exact h.1; exact h.2

/-- What lcFree marks. -/
def FreC (N : Nat) : Prop := ∀ (t : Lm), t.sz ≤ N → ∀ (m G : Nat) (bs : List Bool) (z : Value) (P : Nat → Prop) (w : World), LcIn w P t z → ¬ P G → bs.length = 100 → RecAt w G 4 bitL bs → t.ok = true → m + t.sz ≤ 100000 →
    Calls Try.prog 51 #[.agg (lcC t.kd t.nm z), .int .i64 (m : Int), .slice (some ⟨G, 0, none⟩) 100 100] w fun e w' => e = .returned (.tuple #[]) ∧ RecAt w' G 4 bitL (markF bs (t.free m)) ∧ w.grownBy w' (some G)
theorem grown_refl (w : World) (r : Option Nat) : w.grownBy w r := ⟨rfl, rfl, rfl, Nat.le_refl _, fun _ _ _ => rfl⟩
theorem grown_alloc (w : World) (o : Obj) (r : Option Nat) : w.grownBy (w.alloc o) r := ⟨rfl, rfl, rfl, by simp, fun k hk _ => Below.heap_alloc _ _ _ hk⟩
theorem grown_trans {a b c : World} {r : Option Nat} (h1 : a.grownBy b r) (h2 : b.grownBy c r) : a.grownBy c r :=
  ⟨h2.os.trans h1.os, h2.tape.trans h1.tape, h2.output.trans h1.output, Nat.le_trans h1.size h2.size, fun k hk hne => by rw [h2.block k (Nat.lt_of_lt_of_le hk h1.size) hne, h1.block k hk hne]⟩

set_option maxHeartbeats 8000000 in
set_option maxRecDepth 100000 in
theorem lcFree_step (N : Nat) (IH : ∀ n, n < N → FreC n) : FreC N := by
  intro t ht m G bs z P w hz hPG hbs hR hok hm
  have HIH := hideT' IH
  have HTN := hideT' ht
  have HOK := hideT' hok
  have HMB := hideT' hm
  obtain ⟨oz, cz, hzz, _⟩ := hz.parts
  have HZ := hideT' hz
  have HPG := hideT' hPG
  have HR := hideT' hR
  have HBS := hideT' hbs
  have hGl := hR.lt
  have HFK := hideT' (free_kids t m)
  have hmk : (m : Int) ≤ 100000 := by omega
  have hm0 : (0 : Int) ≤ (m : Int) := by omega
  by_cases hv : t.kd = 1 ∧ (m : Int) ≤ t.nm
  · cases t with
    | lam t => simp [Lm.kd] at hv
    | app a b => simp [Lm.kd] at hv
    | var n =>
      have hn := hv.2
      simp only [Lm.nm] at hn
      have hn2 : n ≤ 99 := by simp [Lm.ok] at hok; exact hok.2
      obtain ⟨k, hk⟩ : ∃ k : Nat, n - (m : Int) = (k : Int) := ⟨(n - (m : Int)).toNat, by omega⟩
      have hk9 : (k : Int) < 100 := by omega
      have hk9' : k < 100 := by omega
      have hw1 : IntKind.i64.wrap (n - (m : Int)) = (k : Int) := by rw [IntKind.wrap_i64]; omega
      have hkb : k < bs.length := by omega
      have HF : Hid (markF bs ((Lm.var n).free m) = bs.set k true) := by
        unfold Hid
        rw [HFK.out]
        simp only [ownF, Lm.kids, List.flatMap_nil, List.append_nil, if_pos hn]
        rw [hk]
        rfl
      simp only [Lm.kids, List.length_nil] at hzz
      subst hzz
      obtain ⟨W, hW⟩ : ∃ W, W = w.alloc (.cells #[.int .i64 1, .int .i64 n, .slice oz 0 cz] 54) := ⟨_, rfl⟩
      have hRW : RecAt W G 4 bitL bs := by rw [hW]; exact RowAt.old hR _
      have cG : (w.alloc (.cells #[.int .i64 1, .int .i64 n, .slice oz 0 cz] 54)).cell? ⟨G, k, none⟩ = some (.bool (bs.getD k false)) := by rw [← hW]; exact bit_cell hRW hkb
      have fG : (w.alloc (.cells #[.int .i64 1, .int .i64 n, .slice oz 0 cz] 54)).frozen? ⟨G, k, none⟩ = false := by rw [← hW]; exact bit_froz hRW k
      have HE : Hid (RecAt ((w.setCell ⟨G, k, none⟩ (.bool true)).alloc (.cells #[.int .i64 1, .int .i64 n, .slice oz 0 cz] 54)) G 4 bitL (bs.set k true) ∧ w.grownBy ((w.setCell ⟨G, k, none⟩ (.bool true)).alloc (.cells #[.int .i64 1, .int .i64 n, .slice oz 0 cz] 54)) (some G)) := ⟨RowAt.old (bit_set hR k true) _, grown_trans (grown_set w G k (.bool true)) (grown_alloc _ _ _)⟩
      have cz2 : ((w.alloc (.cells #[.int .i64 1, .int .i64 n, .slice oz 0 cz] 54)).setCell ⟨G, k, none⟩ (.bool true)).cell? ⟨w.heap.size, 2, none⟩ = some (.slice oz 0 cz) := by
        rw [World.cell?_of_block (w := w.alloc (.cells #[.int .i64 1, .int .i64 n, .slice oz 0 cz] 54)) (heap_setCell_other _ ⟨G, k, none⟩ w.heap.size _ (by intro e; simp at e; omega)), cell_of_row _ _ _ _ _ _ (RowAt.new w 54 _)]; rfl
      clear IH ht hz hPG hbs hR hok hm hv hRW hk hkb
      show Calls Try.prog 51 #[.agg #[.int .i64 1, .int .i64 n, .slice oz 0 cz], .int .i64 (m : Int), .slice (some ⟨G, 0, none⟩) 100 100] w _
      go_enter Try.func51, Try.ntmps51
      go_wp2_with fail
      go_loopg [26] 0 (fun gg i wr => i = .int .i64 0 ∧ wr = (w.setCell ⟨G, k, none⟩ (.bool true)).alloc (.cells #[.int .i64 1, .int .i64 n, .slice oz 0 cz] 54))
      case atStart => exact ⟨rfl, rfl⟩
      case round =>
        obtain ⟨rfl, rfl⟩ := hrel
        clear cG fG cz2
        go_wp2
        go_end0
        rw [HF.out]
        exact ⟨rfl, HE.out.1, HE.out.2⟩
  · obtain ⟨q, hq⟩ : ∃ q, q = t.kids.length := ⟨_, rfl⟩
    have hq2 : q ≤ 2 := by rw [hq]; cases t <;> simp [Lm.kids]
    rw [← hq] at hzz
    subst hzz
    have HQ := hideT' hq
    obtain ⟨kd, hkd⟩ : ∃ kd, kd = t.kd := ⟨_, rfl⟩
    obtain ⟨nm, hnm⟩ : ∃ nm, nm = t.nm := ⟨_, rfl⟩
    rw [← hkd, ← hnm] at hv
    rw [← hkd, ← hnm]
    have HKN := hideT' (And.intro hkd hnm)
    have HOF : Hid (ownF t m = []) := by
      unfold Hid
      cases t with
      | var n =>
        simp only [Lm.kd, Lm.nm] at hkd hnm
        subst hkd hnm
        simp only [true_and] at hv
        simp [ownF]; omega
      | lam t => rfl
      | app a b => rfl
    have HLM : Hid ((kd = 2 → t.lams = 1) ∧ (¬ kd = 2 → t.lams = 0)) := by
      unfold Hid
      rw [hkd]
      cases t <;> simp [Lm.kd, Lm.lams]
    have hdec : (decide (kd = 1) && decide ((m : Int) ≤ nm)) = false := by
      simp only [Bool.and_eq_false_iff, decide_eq_false_iff_not]
      by_cases h1 : kd = 1
      · right; intro h2; exact hv ⟨h1, h2⟩
      · exact .inl h1
    have HRT : Hid (RowAt (w.alloc (.cells #[.int .i64 kd, .int .i64 nm, .slice oz q cz] 54)) w.heap.size 54 #[.int .i64 kd, .int .i64 nm, .slice oz q cz]) := RowAt.new _ _ _
    have HGA : Hid (w.grownBy (w.alloc (.cells #[.int .i64 kd, .int .i64 nm, .slice oz q cz] 54)) (some G)) := grown_alloc _ _ _
    have HRA : Hid (RecAt (w.alloc (.cells #[.int .i64 kd, .int .i64 nm, .slice oz q cz] 54)) G 4 bitL bs) := RowAt.old hR _
    clear IH ht hz hPG hbs hR hok hm hq hkd hnm
    show Calls Try.prog 51 #[.agg #[.int .i64 kd, .int .i64 nm, .slice oz q cz], .int .i64 (m : Int), .slice (some ⟨G, 0, none⟩) 100 100] w _
    have HK3 : Hid (kd = 1 ∨ kd = 2 ∨ kd = 3) := by unfold Hid; rw [HKN.out.1]; cases t <;> simp [Lm.kd]
    go_enter Try.func51, Try.ntmps51
    rcases HK3.out with hk1 | hk2 | hk3
    · have hk1 : kd = 1 := hk1
      subst hk1
      have hnl : ¬ (m : Int) ≤ nm := fun h => hv ⟨rfl, h⟩
      go_wp2_with fail
      go_loopg [26] q (fun gg i wr => ∃ (As Bs : List Lm), gg = Bs.length ∧ Hid (t.kids = As ++ Bs) ∧ i = .int .i64 (As.length : Int) ∧ Hid (RecAt wr G 4 bitL (markF bs (As.flatMap fun s => s.free ((m + t.lams : Nat) : Int))) ∧ RowAt wr w.heap.size 54 #[.int .i64 1, .int .i64 nm, .slice oz q cz] ∧ w.grownBy wr (some G)))
      case atStart => exact ⟨[], t.kids, by rw [HQ.out], rfl, rfl, ⟨HRA.out, HRT.out, HGA.out⟩⟩
      case round =>
        obtain ⟨As, Bs, hgg, HA, rfl, HS⟩ := hrel
        obtain ⟨j, hj⟩ : ∃ j, j = As.length := ⟨_, rfl⟩
        rw [← hj]
        have HJ := hideT' hj
        obtain ⟨hRr, hRowr, hgw⟩ := HS.out
        cases Bs with
        | nil =>
          have hjm : j = q := by rw [hj, HQ.out, HA.out]; simp
          have hnl2 : ¬ (j : Int) < (q : Int) := by omega
          have HEND : Hid (RecAt wr G 4 bitL (markF bs (t.free m))) := by
            unfold Hid
            rw [HFK.out, HOF.out, List.nil_append, HA.out, List.append_nil]; exact hRr
          have HGW := hideT' hgw
          clear hgg hjm hj hRr hRowr hgw HS
          go_wp2
          go_end0
          exact ⟨rfl, HEND.out, HGW.out⟩
        | cons T Bs =>
          have hil : (j : Int) < (q : Int) := by rw [HQ.out, HA.out, List.length_append, ← hj]; simp; omega
          have hkj : t.kids[j]? = some T := by rw [HA.out, hj]; simp
          have hTm : T ∈ t.kids := List.mem_of_getElem? hkj
          have hzr : LcIn wr P t (.slice oz q cz) := LcIn.keep (w := w) hgw.size (fun x hx hl => hgw.block x hl (fun e => by cases e; exact HPG.out hx)) (fun x hx hl => hx) HZ.out
          obtain ⟨o', c', e', hpart⟩ := hzr.parts
          injection e' with e1 e2 e3
          subst e1 e3
          clear e2
          obtain ⟨g, z1, hoz, hg, ⟨c0, c1, c2⟩, hz1⟩ := hpart j T hkj
          subst hoz
          have hg1 := hg.1
          obtain ⟨oz1, cz1, hzz1'⟩ := hz1.form
          subst hzz1'
          have hTs := Lm.kids_lt hTm
          have hGr := hRr.lt
          obtain ⟨W2, hW2⟩ : ∃ W2, W2 = wr.alloc (.cells #[.int .i64 T.kd, .int .i64 T.nm, .slice oz1 T.kids.length cz1] 54) := ⟨_, rfl⟩
          have hR2 : RecAt W2 G 4 bitL (markF bs (As.flatMap fun s => s.free ((m + t.lams : Nat) : Int))) := by rw [hW2]; exact RowAt.old hRr _
          have hz2 : LcIn W2 P T (.slice oz1 T.kids.length cz1) := by rw [hW2]; exact LcIn.below ((Below.refl _ _).alloc (Nat.le_refl _) _) hz1
          have HCALL := hideT' (HIH.out T.sz (by have := HTN.out; omega) T (Nat.le_refl _) (m + t.lams) G _ _ P W2 hz2 HPG.out (by rw [markF_len]; exact HBS.out) hR2 (kid_ok HOK.out hTm) (by have := HMB.out; have : t.lams ≤ 1 := (by cases t <;> simp [Lm.lams]); omega))
          rw [← markF_app] at HCALL
          have HA2 : Hid (t.kids = (As ++ [T]) ++ Bs) := by unfold Hid; rw [HA.out]; simp
          have HFL : Hid ((As ++ [T]).flatMap (fun s => s.free ((m + t.lams : Nat) : Int)) = (As.flatMap fun s => s.free ((m + t.lams : Nat) : Int)) ++ T.free ((m + t.lams : Nat) : Int)) := by unfold Hid; rw [List.flatMap_append, List.flatMap_singleton]
          have HGW2 : Hid (w.grownBy W2 (some G)) := by unfold Hid; rw [hW2]; exact grown_trans hgw (grown_alloc _ _ _)
          have HROW2 : Hid (RowAt W2 w.heap.size 54 #[.int .i64 1, .int .i64 nm, .slice (some ⟨g, 0, none⟩) q cz]) := by unfold Hid; rw [hW2]; exact RowAt.old hRowr _
          have d0 : (wr.alloc (.cells #[.int .i64 T.kd, .int .i64 T.nm, .slice oz1 T.kids.length cz1] 54)).cell? ⟨w.heap.size, 0, none⟩ = some (.int .i64 1) := by rw [← hW2, cell_of_row _ _ _ _ _ _ HROW2.out]; rfl
          have hwsr : w.heap.size < wr.heap.size := hRowr.lt
          have HGL : Hid (w.heap.size ≠ G) := by have := hGl; unfold Hid; omega
          clear hRr hRowr hgw hzr hpart hz1 hz2 hR2 hkj hTm hj HS
          unfold lcC at HCALL
          exact absurd hil (by have h0 : t.kids = [] := (by have := HKN.out.1; cases t with | var n => rfl | lam t => exact absurd this (by simp [Lm.kd]) | app a b => exact absurd this (by simp [Lm.kd])); have : q = 0 := (by rw [HQ.out, h0]; rfl); omega)
    · subst hk2
      have HLM2 : Hid (t.lams = 1) := HLM.out.1 rfl
      go_wp2_with fail
      go_loopg [26] q (fun gg i wr => ∃ (As Bs : List Lm), gg = Bs.length ∧ Hid (t.kids = As ++ Bs) ∧ i = .int .i64 (As.length : Int) ∧ Hid (RecAt wr G 4 bitL (markF bs (As.flatMap fun s => s.free ((m + t.lams : Nat) : Int))) ∧ RowAt wr w.heap.size 54 #[.int .i64 2, .int .i64 nm, .slice oz q cz] ∧ w.grownBy wr (some G)))
      case atStart => exact ⟨[], t.kids, by rw [HQ.out], rfl, rfl, ⟨HRA.out, HRT.out, HGA.out⟩⟩
      case round =>
        obtain ⟨As, Bs, hgg, HA, rfl, HS⟩ := hrel
        obtain ⟨j, hj⟩ : ∃ j, j = As.length := ⟨_, rfl⟩
        rw [← hj]
        have HJ := hideT' hj
        obtain ⟨hRr, hRowr, hgw⟩ := HS.out
        cases Bs with
        | nil =>
          have hjm : j = q := by rw [hj, HQ.out, HA.out]; simp
          have hnl2 : ¬ (j : Int) < (q : Int) := by omega
          have HEND : Hid (RecAt wr G 4 bitL (markF bs (t.free m))) := by
            unfold Hid
            rw [HFK.out, HOF.out, List.nil_append, HA.out, List.append_nil]; exact hRr
          have HGW := hideT' hgw
          clear hgg hjm hj hRr hRowr hgw HS
          go_wp2
          go_end0
          exact ⟨rfl, HEND.out, HGW.out⟩
        | cons T Bs =>
          have hil : (j : Int) < (q : Int) := by rw [HQ.out, HA.out, List.length_append, ← hj]; simp; omega
          have hkj : t.kids[j]? = some T := by rw [HA.out, hj]; simp
          have hTm : T ∈ t.kids := List.mem_of_getElem? hkj
          have hzr : LcIn wr P t (.slice oz q cz) := LcIn.keep (w := w) hgw.size (fun x hx hl => hgw.block x hl (fun e => by cases e; exact HPG.out hx)) (fun x hx hl => hx) HZ.out
          obtain ⟨o', c', e', hpart⟩ := hzr.parts
          injection e' with e1 e2 e3
          subst e1 e3
          clear e2
          obtain ⟨g, z1, hoz, hg, ⟨c0, c1, c2⟩, hz1⟩ := hpart j T hkj
          subst hoz
          have hg1 := hg.1
          obtain ⟨oz1, cz1, hzz1'⟩ := hz1.form
          subst hzz1'
          have hTs := Lm.kids_lt hTm
          have hGr := hRr.lt
          obtain ⟨W2, hW2⟩ : ∃ W2, W2 = wr.alloc (.cells #[.int .i64 T.kd, .int .i64 T.nm, .slice oz1 T.kids.length cz1] 54) := ⟨_, rfl⟩
          have hR2 : RecAt W2 G 4 bitL (markF bs (As.flatMap fun s => s.free ((m + t.lams : Nat) : Int))) := by rw [hW2]; exact RowAt.old hRr _
          have hz2 : LcIn W2 P T (.slice oz1 T.kids.length cz1) := by rw [hW2]; exact LcIn.below ((Below.refl _ _).alloc (Nat.le_refl _) _) hz1
          have HCALL := hideT' (HIH.out T.sz (by have := HTN.out; omega) T (Nat.le_refl _) (m + t.lams) G _ _ P W2 hz2 HPG.out (by rw [markF_len]; exact HBS.out) hR2 (kid_ok HOK.out hTm) (by have := HMB.out; have : t.lams ≤ 1 := (by cases t <;> simp [Lm.lams]); omega))
          rw [← markF_app] at HCALL
          have HA2 : Hid (t.kids = (As ++ [T]) ++ Bs) := by unfold Hid; rw [HA.out]; simp
          have HFL : Hid ((As ++ [T]).flatMap (fun s => s.free ((m + t.lams : Nat) : Int)) = (As.flatMap fun s => s.free ((m + t.lams : Nat) : Int)) ++ T.free ((m + t.lams : Nat) : Int)) := by unfold Hid; rw [List.flatMap_append, List.flatMap_singleton]
          have HGW2 : Hid (w.grownBy W2 (some G)) := by unfold Hid; rw [hW2]; exact grown_trans hgw (grown_alloc _ _ _)
          have HROW2 : Hid (RowAt W2 w.heap.size 54 #[.int .i64 2, .int .i64 nm, .slice (some ⟨g, 0, none⟩) q cz]) := by unfold Hid; rw [hW2]; exact RowAt.old hRowr _
          have d0 : (wr.alloc (.cells #[.int .i64 T.kd, .int .i64 T.nm, .slice oz1 T.kids.length cz1] 54)).cell? ⟨w.heap.size, 0, none⟩ = some (.int .i64 2) := by rw [← hW2, cell_of_row _ _ _ _ _ _ HROW2.out]; rfl
          have hwsr : w.heap.size < wr.heap.size := hRowr.lt
          have HGL : Hid (w.heap.size ≠ G) := by have := hGl; unfold Hid; omega
          clear hRr hRowr hgw hzr hpart hz1 hz2 hR2 hkj hTm hj HS
          unfold lcC at HCALL
          have HCM : Hid ((m + t.lams : Nat) = m + 1) := by unfold Hid; rw [HLM2.out]
          rw [HCM.out] at HCALL
          have hci : ((m + 1 : Nat) : Int) = (m : Int) + 1 := by omega
          rw [hci] at HCALL
          clear hci
          go_wp2_with fail
          rw [← hW2]
          refine HCALL.out.mono ?_
          rintro e w9 ⟨rfl, hO9, hg9⟩
          have HEND : Hid (RecAt w9 G 4 bitL (markF bs ((As ++ [T]).flatMap fun s => s.free ((m + t.lams : Nat) : Int))) ∧ RowAt w9 w.heap.size 54 #[.int .i64 2, .int .i64 nm, .slice (some ⟨g, 0, none⟩) q cz] ∧ w.grownBy w9 (some G)) := ⟨by rw [HFL.out]; rw [HCM.out]; exact hO9, RowAt.grown HROW2.out hg9 (fun e => by injection e with e; exact HGL.out e), grown_trans HGW2.out hg9⟩
          clear hO9 hg9 hW2 d0
          go_wp2
          go_roundg Bs.length
          case measure => first | omega | (rw [hgg]; simp)
          case rel => exact ⟨As ++ [T], Bs, rfl, HA2, by rw [List.length_append, ← HJ.out]; go_num, HEND⟩
    · subst hk3
      have HLM3 : Hid (t.lams = 0) := HLM.out.2 (by omega)
      go_wp2_with fail
      go_loopg [26] q (fun gg i wr => ∃ (As Bs : List Lm), gg = Bs.length ∧ Hid (t.kids = As ++ Bs) ∧ i = .int .i64 (As.length : Int) ∧ Hid (RecAt wr G 4 bitL (markF bs (As.flatMap fun s => s.free ((m + t.lams : Nat) : Int))) ∧ RowAt wr w.heap.size 54 #[.int .i64 3, .int .i64 nm, .slice oz q cz] ∧ w.grownBy wr (some G)))
      case atStart => exact ⟨[], t.kids, by rw [HQ.out], rfl, rfl, ⟨HRA.out, HRT.out, HGA.out⟩⟩
      case round =>
        obtain ⟨As, Bs, hgg, HA, rfl, HS⟩ := hrel
        obtain ⟨j, hj⟩ : ∃ j, j = As.length := ⟨_, rfl⟩
        rw [← hj]
        have HJ := hideT' hj
        obtain ⟨hRr, hRowr, hgw⟩ := HS.out
        cases Bs with
        | nil =>
          have hjm : j = q := by rw [hj, HQ.out, HA.out]; simp
          have hnl2 : ¬ (j : Int) < (q : Int) := by omega
          have HEND : Hid (RecAt wr G 4 bitL (markF bs (t.free m))) := by
            unfold Hid
            rw [HFK.out, HOF.out, List.nil_append, HA.out, List.append_nil]; exact hRr
          have HGW := hideT' hgw
          clear hgg hjm hj hRr hRowr hgw HS
          go_wp2
          go_end0
          exact ⟨rfl, HEND.out, HGW.out⟩
        | cons T Bs =>
          have hil : (j : Int) < (q : Int) := by rw [HQ.out, HA.out, List.length_append, ← hj]; simp; omega
          have hkj : t.kids[j]? = some T := by rw [HA.out, hj]; simp
          have hTm : T ∈ t.kids := List.mem_of_getElem? hkj
          have hzr : LcIn wr P t (.slice oz q cz) := LcIn.keep (w := w) hgw.size (fun x hx hl => hgw.block x hl (fun e => by cases e; exact HPG.out hx)) (fun x hx hl => hx) HZ.out
          obtain ⟨o', c', e', hpart⟩ := hzr.parts
          injection e' with e1 e2 e3
          subst e1 e3
          clear e2
          obtain ⟨g, z1, hoz, hg, ⟨c0, c1, c2⟩, hz1⟩ := hpart j T hkj
          subst hoz
          have hg1 := hg.1
          obtain ⟨oz1, cz1, hzz1'⟩ := hz1.form
          subst hzz1'
          have hTs := Lm.kids_lt hTm
          have hGr := hRr.lt
          obtain ⟨W2, hW2⟩ : ∃ W2, W2 = wr.alloc (.cells #[.int .i64 T.kd, .int .i64 T.nm, .slice oz1 T.kids.length cz1] 54) := ⟨_, rfl⟩
          have hR2 : RecAt W2 G 4 bitL (markF bs (As.flatMap fun s => s.free ((m + t.lams : Nat) : Int))) := by rw [hW2]; exact RowAt.old hRr _
          have hz2 : LcIn W2 P T (.slice oz1 T.kids.length cz1) := by rw [hW2]; exact LcIn.below ((Below.refl _ _).alloc (Nat.le_refl _) _) hz1
          have HCALL := hideT' (HIH.out T.sz (by have := HTN.out; omega) T (Nat.le_refl _) (m + t.lams) G _ _ P W2 hz2 HPG.out (by rw [markF_len]; exact HBS.out) hR2 (kid_ok HOK.out hTm) (by have := HMB.out; have : t.lams ≤ 1 := (by cases t <;> simp [Lm.lams]); omega))
          rw [← markF_app] at HCALL
          have HA2 : Hid (t.kids = (As ++ [T]) ++ Bs) := by unfold Hid; rw [HA.out]; simp
          have HFL : Hid ((As ++ [T]).flatMap (fun s => s.free ((m + t.lams : Nat) : Int)) = (As.flatMap fun s => s.free ((m + t.lams : Nat) : Int)) ++ T.free ((m + t.lams : Nat) : Int)) := by unfold Hid; rw [List.flatMap_append, List.flatMap_singleton]
          have HGW2 : Hid (w.grownBy W2 (some G)) := by unfold Hid; rw [hW2]; exact grown_trans hgw (grown_alloc _ _ _)
          have HROW2 : Hid (RowAt W2 w.heap.size 54 #[.int .i64 3, .int .i64 nm, .slice (some ⟨g, 0, none⟩) q cz]) := by unfold Hid; rw [hW2]; exact RowAt.old hRowr _
          have d0 : (wr.alloc (.cells #[.int .i64 T.kd, .int .i64 T.nm, .slice oz1 T.kids.length cz1] 54)).cell? ⟨w.heap.size, 0, none⟩ = some (.int .i64 3) := by rw [← hW2, cell_of_row _ _ _ _ _ _ HROW2.out]; rfl
          have hwsr : w.heap.size < wr.heap.size := hRowr.lt
          have HGL : Hid (w.heap.size ≠ G) := by have := hGl; unfold Hid; omega
          clear hRr hRowr hgw hzr hpart hz1 hz2 hR2 hkj hTm hj HS
          unfold lcC at HCALL
          have HCM : Hid ((m + t.lams : Nat) = m) := by unfold Hid; rw [HLM3.out]; rfl
          rw [HCM.out] at HCALL
          go_wp2_with fail
          rw [← hW2]
          refine HCALL.out.mono ?_
          rintro e w9 ⟨rfl, hO9, hg9⟩
          have HEND : Hid (RecAt w9 G 4 bitL (markF bs ((As ++ [T]).flatMap fun s => s.free ((m + t.lams : Nat) : Int))) ∧ RowAt w9 w.heap.size 54 #[.int .i64 3, .int .i64 nm, .slice (some ⟨g, 0, none⟩) q cz] ∧ w.grownBy w9 (some G)) := ⟨by rw [HFL.out]; rw [HCM.out]; exact hO9, RowAt.grown HROW2.out hg9 (fun e => by injection e with e; exact HGL.out e), grown_trans HGW2.out hg9⟩
          clear hO9 hg9 hW2 d0
          go_wp2
          go_roundg Bs.length
          case measure => first | omega | (rw [hgg]; simp)
          case rel => exact ⟨As ++ [T], Bs, rfl, HA2, by rw [List.length_append, ← HJ.out]; go_num, HEND⟩
theorem lcFree_all : ∀ N, FreC N := by
  intro N
  induction N using Nat.strongRecOn with
  | _ N IH => exact lcFree_step N IH

/-- What both FreeIn answer. -/
def FrIB (l : List Nd) : Bool := match readP' l with | none => false | some _ => true
def FrIL (l : List Nd) : List Int := match readP' l with | none => [] | some t => FrL t
theorem FrIL_len (l : List Nd) : (FrIL l).length ≤ 1048576 := by
  unfold FrIL
  split
  · simp
  · have := FrL_len ‹Lm›; omega
def idxB (ms : List Bool) (k : Nat) : List Int := natsI ((List.range k).filter fun i => ms.getD i false)
theorem idxB_succ (ms : List Bool) (k : Nat) : idxB ms (k + 1) = idxB ms k ++ (if ms.getD k false then [(k : Int)] else []) := by
  unfold idxB natsI
  rw [List.range_succ, List.filter_append, List.map_append, List.filter_cons, List.filter_nil]
  by_cases h : ms.getD k false = true
  · rw [if_pos h, if_pos h]; rfl
  · rw [if_neg h, if_neg h]; rfl
theorem idxB_len (ms : List Bool) (k : Nat) : (idxB ms k).length ≤ k := by
  unfold idxB natsI
  rw [List.length_map]
  exact Nat.le_trans (List.length_filter_le _ _) (by simp)
theorem idxB_all {t : Lm} (h : t.ok = true) : idxB (markF (List.replicate 100 false) (t.free 0)) 100 = FrL t := by
  unfold idxB FrL FrN
  congr 1
  refine List.filter_congr fun i hi => ?_
  rw [markF_get _ _ _ (by rw [List.length_replicate]; exact List.mem_range.1 hi) (fun x hx => (Lm.free_range t 0 h (Int.le_refl _) x hx).1)]
  have e : (List.replicate 100 false).getD i false = false := by
    rw [List.getD_eq_getElem?_getD, List.getElem?_replicate]; split <;> rfl
  rw [e, Bool.false_or]
theorem oneB_cell (v : Int) : ∀ u ∈ [Value.int .i64 v], u.oneCell' = true := fun u hu => by simp at hu; subst hu; rfl
theorem own_formB {w : World} {B n s : Nat} {T : TypeId} {v : Value} {xs : List Value} (h : w.ownsRow B T s v n xs) : ∃ o cap, v = .slice o n cap := by
  rcases h.2 with ⟨h1, h0⟩ | ⟨g, cap, cur, h1, _⟩
  · exact ⟨none, 0, by rw [h1, h0]⟩
  · exact ⟨_, _, h1⟩
theorem own_baseB {w : World} {B B' n s : Nat} {T : TypeId} {v : Value} {xs : List Value} (h : w.ownsRow B T s v n xs) (hB : B' ≤ B) : w.ownsRow B' T s v n xs :=
  ⟨h.1, h.2.imp id fun ⟨g, cap, cur, h1, h2, h3⟩ => ⟨g, cap, cur, h1, Nat.le_trans hB h2, h3⟩⟩
set_option maxHeartbeats 8000000 in
set_option maxRecDepth 100000 in
theorem specFreeIn_any (l : List Nd) (v : Value) (w : World) (hv : NdIn w v l) (hl : l.length ≤ 1048576) :
    Calls Try.prog 16 #[v] w fun e w' => (∃ u, e = .returned (.tuple #[u, .bool (FrIB l)]) ∧ OwnR w' w.heap.size u 3 intL 1 (FrIL l)) ∧ Below w.heap.size w w' := by
  have HV := hideT' hv
  have HG := hideT' (specGoodTerm_any l v w hv hl)
  clear hv
  cases hr : readP' l with
  | none =>
    have HN : Hid (FrIB l = false ∧ FrIL l = []) := ⟨by unfold FrIB; rw [hr], by unfold FrIL; rw [hr]⟩
    rw [goodS_none hr] at HG
    clear hr
    go_enter Try.func16, Try.ntmps16
    go_wp2_with fail
    refine HG.out.mono ?_
    rintro e w1 ⟨rfl, hB1⟩
    have HB1 := hideT' hB1
    clear hB1
    go_wp2
    go_ret2
    exact ⟨⟨_, by rw [HN.out.1]; rfl, by rw [HN.out.2]; exact World.ownsRow_nil _ _ _ _⟩, HB1.out⟩
  | some t =>
    have HN : Hid (FrIB l = true ∧ FrIL l = FrL t) := ⟨by unfold FrIB; rw [hr], by unfold FrIL; rw [hr]⟩
    rw [goodS_some hr] at HG
    have f1 := readP'_facts hr
    have HT := hideT' f1
    have HRR := hideT' hr
    obtain ⟨bs0, hbs0⟩ : ∃ bs0, bs0 = List.replicate 100 false := ⟨_, rfl⟩
    have hmk : ∀ w, (Instr.makeSlice 50 (.int .i64 100) (.int .i64 100)).run Try.prog w = .ok (.slice (some ⟨w.heap.size, 0, none⟩) 100 100) (w.alloc (.cells (bs0.flatMap bitL).toArray 4)) := fun w => by rw [hbs0]; exact make_bit 100 (by omega) w
    have HBS := hideT' hbs0
    obtain ⟨i0, hi, hz0, hz1, hz2⟩ := info_parts info_int
    clear hr f1 hbs0
    go_enter Try.func16, Try.ntmps16
    go_wp2_with fail
    refine HG.out.mono ?_
    rintro e w1 ⟨rfl, hB1⟩
    have HB1 := hideT' hB1
    obtain ⟨W, hW⟩ : ∃ W, W = w1.alloc (.cells (bs0.flatMap bitL).toArray 4) := ⟨_, rfl⟩
    have hRW : RecAt W w1.heap.size 4 bitL bs0 := by rw [hW]; exact RowAt.new _ _ _
    have hBW : Below w1.heap.size w1 W := by rw [hW]; exact (Below.refl _ _).alloc (Nat.le_refl _) _
    have hBW2 : Below w.heap.size w W := hB1.trans (hBW.mono hB1.size)
    have HC := hideT' (lcTree_whole l t v W (HV.out.below hBW2) HRR.out)
    have HRW := hideT' hRW
    have HBW := hideT' hBW2
    have hsW : W.heap.size = w1.heap.size + 1 := by rw [hW]; simp
    have hs1 := hB1.size
    clear hRW hBW hBW2 hB1
    go_wp2_with fail
    rw [← hW]
    refine HC.out.mono ?_
    rintro e w2 ⟨⟨z, rfl, hz⟩, hB2⟩
    have hR2 : RecAt w2 w1.heap.size 4 bitL bs0 := RecAt.below HRW.out hB2 (by omega)
    obtain ⟨f1, f2, f3, f4, f5⟩ := HT.out
    have HC2 := hideT' (lcFree_all t.sz t (Nat.le_refl _) 0 w1.heap.size bs0 z _ w2 hz (by omega) (by rw [HBS.out]; simp) hR2 f4 (by omega))
    have HB2 : Hid (Below w.heap.size w w2) := HBW.out.trans (hB2.mono HBW.out.size)
    have hs2 := hB2.size
    obtain ⟨kd, hkd⟩ : ∃ kd, kd = t.kd := ⟨_, rfl⟩
    obtain ⟨nm, hnm⟩ : ∃ nm, nm = t.nm := ⟨_, rfl⟩
    rw [← hkd, ← hnm] at HC2
    rw [← hkd, ← hnm]
    clear hz hB2 hR2 f1 f2 f3 f4 f5 hW hkd hnm hmk
    simp only [Int.ofNat_zero] at HC2
    go_wp2_with fail
    refine HC2.out.mono ?_
    rintro e w3 ⟨rfl, hR3, hg3⟩
    obtain ⟨ms, hms⟩ : ∃ ms, ms = markF bs0 (t.free 0) := ⟨_, rfl⟩
    rw [← hms] at hR3
    have hml : ms.length = 100 := by rw [hms, markF_len, HBS.out]; simp
    have HMS : Hid (idxB ms 100 = FrL t) := by unfold Hid; rw [hms, HBS.out]; exact idxB_all HT.out.2.2.2.1
    have hB3 : Below w.heap.size w w3 := HB2.out.grown hg3 HB2.out.size (fun k hk => by cases hk; omega)
    have hs3 := hg3.size
    have HR3 := hideT' hR3
    have HB3 := hideT' hB3
    have HML := hideT' hml
    clear hms hR3 hg3 hB3 hml
    go_wp2_with fail
    go_loopg [5, 18] 100 (fun g x i wr => ∃ k : Nat, g = 100 - k ∧ k ≤ 100 ∧ i = .int .i64 (k : Int) ∧ OwnR wr (w1.heap.size + 1) x 3 intL 1 (idxB ms k) ∧ RecAt wr w1.heap.size 4 bitL ms ∧ Below w.heap.size w wr ∧ w1.heap.size + 1 ≤ wr.heap.size)
    case atStart => exact ⟨0, rfl, by omega, by go_num, World.ownsRow_nil _ _ _ _, HR3.out, HB3.out, by omega⟩
    case round =>
      obtain ⟨k, hg, hk, rfl, hO, hDr, hW, hsz⟩ := hrel
      obtain ⟨o, cap, hvv⟩ := own_formB hO
      have HO := hideT' hO
      subst hvv
      by_cases hlt : (k : Int) < 100
      · have hk' : k < ms.length := by have := HML.out; omega
        have hbit := bit_cell hDr hk'
        have hsucc := idxB_succ ms k
        have hkl := idxB_len ms k
        obtain ⟨q, hq⟩ : ∃ q, q = ms.getD k false := ⟨_, rfl⟩
        rw [← hq] at hbit hsucc
        clear hq hO
        cases q with
        | false =>
          have HS : Hid (idxB ms (k + 1) = idxB ms k) := by unfold Hid; rw [hsucc]; simp
          clear hsucc
          go_wp2
          go_roundg (100 - (k + 1))
          case measure => omega
          case rel => exact ⟨k + 1, rfl, by omega, by go_num, by rw [HS.out]; exact HO.out, hDr, hW, hsz⟩
        | true =>
          have HS : Hid (idxB ms (k + 1) = idxB ms k ++ [(k : Int)]) := by unfold Hid; rw [hsucc]; simp
          have HDr := hideT' hDr
          clear hsucc hDr
          go_wp2_with (at_builtin; refine wpList_append_own _ rfl _ _ 24 rfl (w1.heap.size + 1) 3 i0 (.int .i64 0) 1 8 Try.underlying24 hi hz0 hz1 hz2 rfl (by decide) _ _ _ rfl (HO.out.alloc _) ⟨wr.heap.size, 0, none⟩ 1 1 [.int .i64 (k : Int)] rfl rfl (cell_one_new _ _ _) (oneB_cell _) (by unfold maxLen; omega) (by omega) (by simp; omega) ?_; intro v' w4 hown' hgrow _)
          have hgb : ∀ g, (Value.slice o (idxB ms k).length cap).ownBlock = some g → w1.heap.size + 1 ≤ g := fun g e => (HO.out.lt g e).1
          go_roundg (100 - (k + 1))
          case measure => omega
          case rel =>
            refine ⟨k + 1, rfl, by omega, by go_num, ?_, ?_, ?_, ?_⟩
            · rw [HS.out]
              unfold OwnR
              rw [List.length_append, List.flatMap_append]
              exact hown'
            · exact RowAt.grown (RowAt.old HDr.out _) hgrow (fun e => by have := hgb _ e.symm; omega)
            · exact (hW.alloc hW.size _).grown hgrow (by have := hW.size; simp; omega) (fun k hk => by have := hgb _ hk; omega)
            · have := hgrow.size
              simp only [World.size_alloc] at this
              omega
      · have hkn : k = 100 := by omega
        subst hkn
        have HF : Hid (OwnR wr (w1.heap.size + 1) (.slice o (idxB ms 100).length cap) 3 intL 1 (FrIL l)) := by
          unfold Hid
          rw [HN.out.2, ← HMS.out]; exact hO
        clear hO
        go_wp2
        go_ret2
        exact ⟨⟨_, by rw [HN.out.1]; rfl, own_baseB HF.out (by omega)⟩, hW⟩
end Go.Proofs.Ytbnagagdboeedaa
