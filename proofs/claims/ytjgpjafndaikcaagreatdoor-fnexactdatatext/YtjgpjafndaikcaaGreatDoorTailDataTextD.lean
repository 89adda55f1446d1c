/-
  The texts SpecText3, SpecDataText, DatLaw, SzData, DatCopy, DatArg, one behind the other, as one.
-/
import Derived.Test.YtjgpjafndaikcaaGreatDoorTailDataTextC
import Derived.Deep.Strs
import Derived.Carry
import Derived.WalkKit
import Derived.ProofKit
import Derived.OpenShut
import Derived.ShutString
import Derived.ChangeOld

/-
  What spec.l3Text and spec.DataText answer.
-/
namespace Go.Proofs.YtjgpjafndaikcaaGreatDoor
open Go.RowKit
set_option linter.unusedVariables false

theorem tx_bound {l : List Dm} (hF : Fine l) {b : Nat} {w : World} (hD : DatAt w b l) {a : Nat} (ha : a < l.length) : (TX l a).length ≤ 660000000 := by
  have hn := hF.few
  obtain ⟨e, w', fr, ⟨v', e', _, hN, hL, _⟩, _⟩ := datums hF (l.length - a) a ha (Nat.le_refl _) b w.heap.size (.slice none 0 0) [] w (Nat.le_refl _) (RowAt.lt hD) hD (BytesAt.nil _ _) (by simp; omega) []
  have := hN.hi
  omega
theorem jn_bound {l : List Dm} (hF : Fine l) {b : Nat} {w : World} (hD : DatAt w b l) (u : Int) (a : Nat) (ha : (a : Int) = u + 1) (hl : a ≤ l.length) : (jnK l (TX l) l.length u).length ≤ 660000000 := by
  have hn := hF.few
  obtain ⟨e, w', fr, ⟨v', e', _, hN, hL, _⟩, _⟩ := parts_of hF u a ha hl (fun c _ hc => datums hF (l.length - c) c hc (Nat.le_refl _)) b w.heap.size (.slice none 0 0) [] w (Nat.le_refl _) (RowAt.lt hD) hD (BytesAt.nil _ _) (by simp; omega) []
  have := hN.hi
  omega
theorem jn_mono (g : Nat → List UInt8) (dot : Bool) (m : Nat) (q : List Nat) (i : Nat) : ∀ j, i ≤ j → (jn g dot m q i).length ≤ (jn g dot m q j).length
  | 0, h => by rw [show i = 0 by omega]; exact Nat.le_refl _
  | j + 1, h => by
    by_cases e : i = j + 1
    · rw [e]; exact Nat.le_refl _
    · have := jn_mono g dot m q i j (by omega)
      rw [jn, List.length_append]; omega
theorem below_cell {w w' : World} {B g o : Nat} (h : Below B w w') (hg : g < B) : w'.cell? ⟨g, o, none⟩ = w.cell? ⟨g, o, none⟩ := h.cell hg

theorem prt_at2 {l : List Dm} {n k i : Nat} (hi : i < (prt l n k).length) : (prt l n k).getD i 0 < n ∧ k < (prt l n k).getD i 0 := by
  have hm : (prt l n k).getD i 0 ∈ prt l n k := by
    simp only [List.getD, List.getElem?_eq_getElem hi, Option.getD_some]; exact List.getElem_mem _
  have h2 : (prt l n k).getD i 0 ∈ kid l n (k : Int) := by rw [kid_prt]; exact hm
  have := kid_mem h2
  exact ⟨this.1, by omega⟩
/-- l3Text answers as it should at node k. -/
def TxtOk (l : List Dm) (k : Nat) : Prop := ∀ (b : Nat) (w : World), DatAt w b l →
  Calls Tryz.prog 31 #[slV b l, .int .i64 (k : Int)] w fun e w' => (∃ s : ByteArray, e = .returned (.string s) ∧ s.data.toList = TX l k) ∧ Below w.heap.size w w'

set_option maxHeartbeats 4000000 in
set_option maxRecDepth 100000 in
theorem text_of {l : List Dm} (hF : Fine l) (k : Nat) (hk : k < l.length) (ih : ∀ p, k < p → p < l.length → TxtOk l p) : TxtOk l k := by
  intro b w hD
  have HI := hideT' ih
  have HF := hideT' hF
  have hz := zero_dm.1
  have hn3 := hF.few
  have HD := hideT' hD
  have hb := RowAt.lt hD
  obtain ⟨q, s, y, hd, hq, hs, hy⟩ := dm_parts l k
  have hss : s.size ≤ 1048576 := by rw [hs]; exact hF.size k hk
  have HDM := hideT' hd
  have HQ := hideT' hq
  have HTX := hideT' hs
  have hkd := kind_of (hF.txt k hk)
  rw [← hq] at hkd
  have A : DmAt (w.alloc (.cells (dmC default) 38)) w.heap.size default := RowAt.new w _ _
  have hBn : ∀ w1, (w.alloc (.cells (dmC default) 38)).grownBy w1 (some w.heap.size) → Below w.heap.size w w1 := fun w1 hg => ((Below.refl _ w).alloc (Nat.le_refl _) _).grown hg (by simp) (by intro k hk; injection hk; omega)
  have HBn := hideT' hBn
  clear ih hF hd hq hs hy hBn
  rcases hkd with rfl | rfl | rfl | rfl | rfl | rfl
  · have HX := hideT' (tx_leaf hk s HTX.out (by rw [← HQ.out]; simp))
    go_enter Tryz.func31, Tryz.ntmps31
    go_wp2_with (first | (refine load_dm rfl _ rfl b k rfl l hD hk ⟨1, s, y⟩ HDM.out ?_) | (refine store_dv rfl _ _ rfl rfl w.heap.size ⟨1, s, y⟩ rfl rfl default A ?_; intro w1 hN1 hg1 hs1; have c0 : w1.cell? ⟨w.heap.size, 0, none⟩ = some (.int .i64 1) := dm_c0 hN1; have c1 : w1.cell? ⟨w.heap.size, 1, none⟩ = some (.string s) := dm_c1 hN1; have hs1' : w.heap.size + 1 ≤ w1.heap.size := (by rw [hs1]; simp); clear hs1))
    go_ret
    exact ⟨⟨s, rfl, by rw [HX.out]⟩, HBn.out w1 hg1⟩
  · have HX := hideT' (tx_leaf hk s HTX.out (by rw [← HQ.out]; simp))
    go_enter Tryz.func31, Tryz.ntmps31
    go_wp2_with (first | (refine load_dm rfl _ rfl b k rfl l hD hk ⟨2, s, y⟩ HDM.out ?_) | (refine store_dv rfl _ _ rfl rfl w.heap.size ⟨2, s, y⟩ rfl rfl default A ?_; intro w1 hN1 hg1 hs1; have c0 : w1.cell? ⟨w.heap.size, 0, none⟩ = some (.int .i64 2) := dm_c0 hN1; have c1 : w1.cell? ⟨w.heap.size, 1, none⟩ = some (.string s) := dm_c1 hN1; have hs1' : w.heap.size + 1 ≤ w1.heap.size := (by rw [hs1]; simp); clear hs1))
    go_ret
    exact ⟨⟨s, rfl, by rw [HX.out]⟩, HBn.out w1 hg1⟩
  · have HX := hideT' (tx_str hk s HTX.out HQ.out.symm)
    go_enter Tryz.func31, Tryz.ntmps31
    go_wp2_with (first | (refine load_dm rfl _ rfl b k rfl l hD hk ⟨3, s, y⟩ HDM.out ?_) | (refine store_dv rfl _ _ rfl rfl w.heap.size ⟨3, s, y⟩ rfl rfl default A ?_; intro w1 hN1 hg1 hs1; have c0 : w1.cell? ⟨w.heap.size, 0, none⟩ = some (.int .i64 3) := dm_c0 hN1; have c1 : w1.cell? ⟨w.heap.size, 1, none⟩ = some (.string s) := dm_c1 hN1; have hs1' : w.heap.size + 1 ≤ w1.heap.size := (by rw [hs1]; simp); clear hs1))
    have hW1 := HBn.out w1 hg1
    refine (l3Quote_any s w1 hss).mono ?_
    rintro e w2 ⟨⟨r, rfl, hr⟩, rfl⟩
    have HR := hideT' hr
    clear hr
    go_wp2
    (try simp only [Exit.inBlock, Exit.then]); go_ret
    exact ⟨⟨r, rfl, by rw [HX.out]; exact HR.out⟩, hW1⟩
  · have HX := hideT' (tx_bool hk s HTX.out HQ.out.symm)
    have hc : ¬ 9223372036854775807 < 1 + s.size := by omega
    go_enter Tryz.func31, Tryz.ntmps31
    go_wp2_with (first | (refine load_dm rfl _ rfl b k rfl l hD hk ⟨4, s, y⟩ HDM.out ?_) | (refine store_dv rfl _ _ rfl rfl w.heap.size ⟨4, s, y⟩ rfl rfl default A ?_; intro w1 hN1 hg1 hs1; have c0 : w1.cell? ⟨w.heap.size, 0, none⟩ = some (.int .i64 4) := dm_c0 hN1; have c1 : w1.cell? ⟨w.heap.size, 1, none⟩ = some (.string s) := dm_c1 hN1; have hs1' : w.heap.size + 1 ≤ w1.heap.size := (by rw [hs1]; simp); clear hs1))
    have hW1 := HBn.out w1 hg1
    (try simp only [Exit.inBlock, Exit.then]); go_ret
    exact ⟨⟨_, rfl, by rw [HX.out, ba_app]; simp⟩, hW1⟩
  · have HX := hideT' (tx_list hk (by rw [← HQ.out]; simp))
    go_enter Tryz.func31, Tryz.ntmps31
    go_wp2_with (first | (refine load_dm rfl _ rfl b k rfl l hD hk ⟨5, s, y⟩ HDM.out ?_) | (refine store_dv rfl _ _ rfl rfl w.heap.size ⟨5, s, y⟩ rfl rfl default A ?_; intro w1 hN1 hg1 hs1; have c0 : w1.cell? ⟨w.heap.size, 0, none⟩ = some (.int .i64 5) := dm_c0 hN1; have c1 : w1.cell? ⟨w.heap.size, 1, none⟩ = some (.string s) := dm_c1 hN1; have hs1' : w.heap.size + 1 ≤ w1.heap.size := (by rw [hs1]; simp); clear hs1))
    have hW1 := HBn.out w1 hg1
    refine (l3Parts_any b l k _ w1 rfl hk hn3 (RowAt.below HD.out hW1 hb)).mono ?_
    rintro e w3 ⟨v, rfl, hown, hW3a⟩
    have hW03 := hW1.trans (hW3a.mono hW1.size)
    have hs3 := hW3a.size
    have hN3 : DmAt w3 w.heap.size ⟨5, s, y⟩ := RowAt.below hN1 hW3a (by omega)
    have HJ : Hid (jnK l (TX l) l.length (k : Int) = jn (TX l) false (prt l l.length k).length (prt l l.length k) (prt l l.length k).length) := by
      unfold Hid jnK dotK
      rw [kid_prt, Int.toNat_natCast, ← HQ.out]; rfl
    have HJB := hideT' (jn_bound HF.out HD.out (k : Int) (k + 1) (by omega) (by omega))
    have PM : Hid (∀ i, i < (prt l l.length k).length → (prt l l.length k).getD i 0 < l.length ∧ k < (prt l l.length k).getD i 0) := fun i hi => prt_at2 hi
    have OC : Hid (0 < (prt l l.length k).length → ∃ g cap, v = .slice (some ⟨g, 0, none⟩) (prt l l.length k).length cap ∧ g < w3.heap.size ∧ ∀ i, i < (prt l l.length k).length → w3.cell? ⟨g, i, none⟩ = some (.int .i64 (((prt l l.length k).getD i 0 : Nat) : Int))) := fun h => by
      obtain ⟨g, cap, rfl, _, hgl, _, _⟩ := own_form hown h
      refine ⟨g, cap, rfl, hgl, fun i hi => ?_⟩
      have := own_cell hown i (by rw [natI_len]; exact hi)
      rwa [natI_get] at this
    obtain ⟨o0, cap0, hv⟩ := own_form8 hown
    obtain ⟨P, hP⟩ : ∃ P, P = prt l l.length k := ⟨_, rfl⟩
    rw [← hP] at HJ PM OC hv
    obtain ⟨m, hm⟩ : ∃ m, m = P.length := ⟨_, rfl⟩
    have hml : m ≤ l.length := by have := prt_len l l.length k; rw [← hP] at this; omega
    rw [← hm] at HJ PM OC hv
    clear hP hown hW3a c0 c1
    subst hv
    have hmi : (m : Int) ≤ 300 := by omega
    go_wp2_with fail
    go_loopg [6, 36] m (fun g x i wr => ∃ (j : Nat) (o : ByteArray), g = m - j ∧ j ≤ m ∧ i = .int .i64 (j : Int) ∧ x = .string o ∧ Hid (o.data.toList = 40 :: jn (TX l) false m P j) ∧ Below w3.heap.size w3 wr)
    case atStart => exact ⟨0, ⟨#[40]⟩, rfl, by omega, rfl, rfl, rfl, Below.refl _ _⟩
    case round =>
      obtain ⟨i, o, hg, hi, rfl, rfl, HO, hW3⟩ := hrel
      have hWw : Below w.heap.size w wr := hW03.trans (hW3.mono hW03.size)
      have hos : o.size ≤ 660000001 := by
        have h1 : o.data.toList.length = o.size := by simp
        have h2 := jn_mono (TX l) false m P i m hi
        have h3 := HJB.out
        rw [HJ.out] at h3
        rw [HO.out, List.length_cons] at h1
        omega
      by_cases hlt : (i : Int) < (m : Int)
      · have hi' : i < m := by omega
        obtain ⟨g, cap, hv, hgl, hcl⟩ := OC.out (by omega)
        obtain ⟨p, hp⟩ : ∃ p, p = P.getD i 0 := ⟨_, rfl⟩
        have hpc := hcl i hi'
        rw [← hp] at hpc
        have hpc2 : wr.cell? ⟨g, i, none⟩ = some (.int .i64 (p : Int)) := by rw [below_cell hW3 hgl]; exact hpc
        have hpl : p < l.length := by rw [hp]; exact (PM.out i hi').1
        have hkp : k < p := by rw [hp]; exact (PM.out i hi').2
        have HPI := hideT' hp
        have ck : wr.cell? ⟨w.heap.size, 0, none⟩ = some (.int .i64 5) := dm_c0 (RowAt.below hN3 hW3 (by omega))
        injection hv with hv1 hv2 hv3
        subst hv1 hv3
        clear hcl hp hpc hv2
        have hc1 : ¬ 9223372036854775807 < o.size + 1 := by omega
        have hc2 : ¬ 9223372036854775807 < o.size + 2 := by omega
        have hc3 : ¬ 9223372036854775807 < o.size + 1 + 2 := by omega
        have hc4 : ¬ 9223372036854775807 < o.size + 3 := by omega
        by_cases hsp : (0 : Int) < (i : Int)
        · skip
          go_wp2_with fail
          refine (HI.out p hkp hpl b wr (RowAt.below HD.out hWw hb)).mono ?_
          rintro e w5 ⟨⟨r, rfl, hr⟩, hW5⟩
          have hrs : r.size ≤ 660000000 := by have h1 : r.data.toList.length = r.size := (by simp); rw [hr] at h1; have := tx_bound HF.out HD.out hpl; omega
          have HR := hideT' hr
          clear hr
          have _h89291 : ¬ 9223372036854775807 < o.size + r.size := by omega
          have _h85945 : ¬ 9223372036854775807 < o.size + 1 + r.size := by omega
          have _h25221 : ¬ 9223372036854775807 < o.size + 2 + r.size := by omega
          have _h40872 : ¬ 9223372036854775807 < o.size + 1 + 2 + r.size := by omega
          have _h18467 : ¬ 9223372036854775807 < o.size + 3 + r.size := by omega
          have _h29064 : ¬ 9223372036854775807 < o.size + (1 + r.size) := by omega
          go_wp2
          go_roundg (m - (i + 1))
          case measure => omega
          case rel =>
            refine ⟨i + 1, (o ++ ⟨#[32]⟩) ++ r, rfl, by omega, by go_num, rfl, ?_, hW3.trans (hW5.mono hW3.size)⟩
            unfold Hid
            rw [jn, if_pos (by omega), if_neg (by simp), ← HPI.out]
            simp only [ba_app, HO.out, HR.out]
            simp
        · skip
          go_wp2_with fail
          refine (HI.out p hkp hpl b wr (RowAt.below HD.out hWw hb)).mono ?_
          rintro e w5 ⟨⟨r, rfl, hr⟩, hW5⟩
          have hrs : r.size ≤ 660000000 := by have h1 : r.data.toList.length = r.size := (by simp); rw [hr] at h1; have := tx_bound HF.out HD.out hpl; omega
          have HR := hideT' hr
          clear hr
          have _h89291 : ¬ 9223372036854775807 < o.size + r.size := by omega
          have _h85945 : ¬ 9223372036854775807 < o.size + 1 + r.size := by omega
          have _h25221 : ¬ 9223372036854775807 < o.size + 2 + r.size := by omega
          have _h40872 : ¬ 9223372036854775807 < o.size + 1 + 2 + r.size := by omega
          have _h18467 : ¬ 9223372036854775807 < o.size + 3 + r.size := by omega
          have _h29064 : ¬ 9223372036854775807 < o.size + (1 + r.size) := by omega
          go_wp2
          go_roundg (m - (i + 1))
          case measure => omega
          case rel =>
            refine ⟨i + 1, o ++ r, rfl, by omega, by go_num, rfl, ?_, hW3.trans (hW5.mono hW3.size)⟩
            unfold Hid
            rw [jn, if_neg (by omega), if_neg (by simp), ← HPI.out]
            simp only [ba_app, HO.out, HR.out]
            simp
      · have him : i = m := by omega
        subst him
        have hc1 : ¬ 9223372036854775807 < o.size + 1 := by omega
        go_wp2
        go_ret
        refine ⟨⟨_, rfl, ?_⟩, hWw⟩
        rw [ba_app, HO.out, HX.out, HJ.out]
        simp
  · have HX := hideT' (tx_list hk (by rw [← HQ.out]; simp))
    go_enter Tryz.func31, Tryz.ntmps31
    go_wp2_with (first | (refine load_dm rfl _ rfl b k rfl l hD hk ⟨6, s, y⟩ HDM.out ?_) | (refine store_dv rfl _ _ rfl rfl w.heap.size ⟨6, s, y⟩ rfl rfl default A ?_; intro w1 hN1 hg1 hs1; have c0 : w1.cell? ⟨w.heap.size, 0, none⟩ = some (.int .i64 6) := dm_c0 hN1; have c1 : w1.cell? ⟨w.heap.size, 1, none⟩ = some (.string s) := dm_c1 hN1; have hs1' : w.heap.size + 1 ≤ w1.heap.size := (by rw [hs1]; simp); clear hs1))
    have hW1 := HBn.out w1 hg1
    refine (l3Parts_any b l k _ w1 rfl hk hn3 (RowAt.below HD.out hW1 hb)).mono ?_
    rintro e w3 ⟨v, rfl, hown, hW3a⟩
    have hW03 := hW1.trans (hW3a.mono hW1.size)
    have hs3 := hW3a.size
    have hN3 : DmAt w3 w.heap.size ⟨6, s, y⟩ := RowAt.below hN1 hW3a (by omega)
    have HJ : Hid (jnK l (TX l) l.length (k : Int) = jn (TX l) true (prt l l.length k).length (prt l l.length k) (prt l l.length k).length) := by
      unfold Hid jnK dotK
      rw [kid_prt, Int.toNat_natCast, ← HQ.out]; rfl
    have HJB := hideT' (jn_bound HF.out HD.out (k : Int) (k + 1) (by omega) (by omega))
    have PM : Hid (∀ i, i < (prt l l.length k).length → (prt l l.length k).getD i 0 < l.length ∧ k < (prt l l.length k).getD i 0) := fun i hi => prt_at2 hi
    have OC : Hid (0 < (prt l l.length k).length → ∃ g cap, v = .slice (some ⟨g, 0, none⟩) (prt l l.length k).length cap ∧ g < w3.heap.size ∧ ∀ i, i < (prt l l.length k).length → w3.cell? ⟨g, i, none⟩ = some (.int .i64 (((prt l l.length k).getD i 0 : Nat) : Int))) := fun h => by
      obtain ⟨g, cap, rfl, _, hgl, _, _⟩ := own_form hown h
      refine ⟨g, cap, rfl, hgl, fun i hi => ?_⟩
      have := own_cell hown i (by rw [natI_len]; exact hi)
      rwa [natI_get] at this
    obtain ⟨o0, cap0, hv⟩ := own_form8 hown
    obtain ⟨P, hP⟩ : ∃ P, P = prt l l.length k := ⟨_, rfl⟩
    rw [← hP] at HJ PM OC hv
    obtain ⟨m, hm⟩ : ∃ m, m = P.length := ⟨_, rfl⟩
    have hml : m ≤ l.length := by have := prt_len l l.length k; rw [← hP] at this; omega
    rw [← hm] at HJ PM OC hv
    clear hP hown hW3a c0 c1
    subst hv
    have hmi : (m : Int) ≤ 300 := by omega
    go_wp2_with fail
    go_loopg [6, 36] m (fun g x i wr => ∃ (j : Nat) (o : ByteArray), g = m - j ∧ j ≤ m ∧ i = .int .i64 (j : Int) ∧ x = .string o ∧ Hid (o.data.toList = 40 :: jn (TX l) true m P j) ∧ Below w3.heap.size w3 wr)
    case atStart => exact ⟨0, ⟨#[40]⟩, rfl, by omega, rfl, rfl, rfl, Below.refl _ _⟩
    case round =>
      obtain ⟨i, o, hg, hi, rfl, rfl, HO, hW3⟩ := hrel
      have hWw : Below w.heap.size w wr := hW03.trans (hW3.mono hW03.size)
      have hos : o.size ≤ 660000001 := by
        have h1 : o.data.toList.length = o.size := by simp
        have h2 := jn_mono (TX l) true m P i m hi
        have h3 := HJB.out
        rw [HJ.out] at h3
        rw [HO.out, List.length_cons] at h1
        omega
      by_cases hlt : (i : Int) < (m : Int)
      · have hi' : i < m := by omega
        obtain ⟨g, cap, hv, hgl, hcl⟩ := OC.out (by omega)
        obtain ⟨p, hp⟩ : ∃ p, p = P.getD i 0 := ⟨_, rfl⟩
        have hpc := hcl i hi'
        rw [← hp] at hpc
        have hpc2 : wr.cell? ⟨g, i, none⟩ = some (.int .i64 (p : Int)) := by rw [below_cell hW3 hgl]; exact hpc
        have hpl : p < l.length := by rw [hp]; exact (PM.out i hi').1
        have hkp : k < p := by rw [hp]; exact (PM.out i hi').2
        have HPI := hideT' hp
        have ck : wr.cell? ⟨w.heap.size, 0, none⟩ = some (.int .i64 6) := dm_c0 (RowAt.below hN3 hW3 (by omega))
        injection hv with hv1 hv2 hv3
        subst hv1 hv3
        clear hcl hp hpc hv2
        have hc1 : ¬ 9223372036854775807 < o.size + 1 := by omega
        have hc2 : ¬ 9223372036854775807 < o.size + 2 := by omega
        have hc3 : ¬ 9223372036854775807 < o.size + 1 + 2 := by omega
        have hc4 : ¬ 9223372036854775807 < o.size + 3 := by omega
        by_cases hdo : i + 1 = m
        · have HDO : Hid (i + 1 = m) := hdo
          have hdi : ((i : Int) == (m : Int) - 1) = true := beq_iff_eq.2 (by omega)
          clear hdo
          by_cases hsp : (0 : Int) < (i : Int)
          · skip
            go_wp2_with fail
            refine (HI.out p hkp hpl b wr (RowAt.below HD.out hWw hb)).mono ?_
            rintro e w5 ⟨⟨r, rfl, hr⟩, hW5⟩
            have hrs : r.size ≤ 660000000 := by have h1 : r.data.toList.length = r.size := (by simp); rw [hr] at h1; have := tx_bound HF.out HD.out hpl; omega
            have HR := hideT' hr
            clear hr
            have _h89291 : ¬ 9223372036854775807 < o.size + r.size := by omega
            have _h85945 : ¬ 9223372036854775807 < o.size + 1 + r.size := by omega
            have _h25221 : ¬ 9223372036854775807 < o.size + 2 + r.size := by omega
            have _h40872 : ¬ 9223372036854775807 < o.size + 1 + 2 + r.size := by omega
            have _h18467 : ¬ 9223372036854775807 < o.size + 3 + r.size := by omega
            have _h29064 : ¬ 9223372036854775807 < o.size + (1 + r.size) := by omega
            go_wp2
            go_roundg (m - (i + 1))
            case measure => omega
            case rel =>
              refine ⟨i + 1, ((o ++ ⟨#[32]⟩) ++ ⟨#[46, 32]⟩) ++ r, rfl, by omega, by go_num, rfl, ?_, hW3.trans (hW5.mono hW3.size)⟩
              unfold Hid
              rw [jn, if_pos (by omega), if_pos (by rw [decide_eq_true HDO.out]; rfl), ← HPI.out]
              simp only [ba_app, HO.out, HR.out]
              simp
          · skip
            go_wp2_with fail
            refine (HI.out p hkp hpl b wr (RowAt.below HD.out hWw hb)).mono ?_
            rintro e w5 ⟨⟨r, rfl, hr⟩, hW5⟩
            have hrs : r.size ≤ 660000000 := by have h1 : r.data.toList.length = r.size := (by simp); rw [hr] at h1; have := tx_bound HF.out HD.out hpl; omega
            have HR := hideT' hr
            clear hr
            have _h89291 : ¬ 9223372036854775807 < o.size + r.size := by omega
            have _h85945 : ¬ 9223372036854775807 < o.size + 1 + r.size := by omega
            have _h25221 : ¬ 9223372036854775807 < o.size + 2 + r.size := by omega
            have _h40872 : ¬ 9223372036854775807 < o.size + 1 + 2 + r.size := by omega
            have _h18467 : ¬ 9223372036854775807 < o.size + 3 + r.size := by omega
            have _h29064 : ¬ 9223372036854775807 < o.size + (1 + r.size) := by omega
            go_wp2
            go_roundg (m - (i + 1))
            case measure => omega
            case rel =>
              refine ⟨i + 1, (o ++ ⟨#[46, 32]⟩) ++ r, rfl, by omega, by go_num, rfl, ?_, hW3.trans (hW5.mono hW3.size)⟩
              unfold Hid
              rw [jn, if_neg (by omega), if_pos (by rw [decide_eq_true HDO.out]; rfl), ← HPI.out]
              simp only [ba_app, HO.out, HR.out]
              simp
        · have HDO : Hid (¬ i + 1 = m) := hdo
          have hdi : ((i : Int) == (m : Int) - 1) = false := beq_eq_false_iff_ne.2 (by omega)
          clear hdo
          by_cases hsp : (0 : Int) < (i : Int)
          · skip
            go_wp2_with fail
            refine (HI.out p hkp hpl b wr (RowAt.below HD.out hWw hb)).mono ?_
            rintro e w5 ⟨⟨r, rfl, hr⟩, hW5⟩
            have hrs : r.size ≤ 660000000 := by have h1 : r.data.toList.length = r.size := (by simp); rw [hr] at h1; have := tx_bound HF.out HD.out hpl; omega
            have HR := hideT' hr
            clear hr
            have _h89291 : ¬ 9223372036854775807 < o.size + r.size := by omega
            have _h85945 : ¬ 9223372036854775807 < o.size + 1 + r.size := by omega
            have _h25221 : ¬ 9223372036854775807 < o.size + 2 + r.size := by omega
            have _h40872 : ¬ 9223372036854775807 < o.size + 1 + 2 + r.size := by omega
            have _h18467 : ¬ 9223372036854775807 < o.size + 3 + r.size := by omega
            have _h29064 : ¬ 9223372036854775807 < o.size + (1 + r.size) := by omega
            go_wp2
            go_roundg (m - (i + 1))
            case measure => omega
            case rel =>
              refine ⟨i + 1, (o ++ ⟨#[32]⟩) ++ r, rfl, by omega, by go_num, rfl, ?_, hW3.trans (hW5.mono hW3.size)⟩
              unfold Hid
              rw [jn, if_pos (by omega), if_neg (by rw [decide_eq_false HDO.out]; decide), ← HPI.out]
              simp only [ba_app, HO.out, HR.out]
              simp
          · skip
            go_wp2_with fail
            refine (HI.out p hkp hpl b wr (RowAt.below HD.out hWw hb)).mono ?_
            rintro e w5 ⟨⟨r, rfl, hr⟩, hW5⟩
            have hrs : r.size ≤ 660000000 := by have h1 : r.data.toList.length = r.size := (by simp); rw [hr] at h1; have := tx_bound HF.out HD.out hpl; omega
            have HR := hideT' hr
            clear hr
            have _h89291 : ¬ 9223372036854775807 < o.size + r.size := by omega
            have _h85945 : ¬ 9223372036854775807 < o.size + 1 + r.size := by omega
            have _h25221 : ¬ 9223372036854775807 < o.size + 2 + r.size := by omega
            have _h40872 : ¬ 9223372036854775807 < o.size + 1 + 2 + r.size := by omega
            have _h18467 : ¬ 9223372036854775807 < o.size + 3 + r.size := by omega
            have _h29064 : ¬ 9223372036854775807 < o.size + (1 + r.size) := by omega
            go_wp2
            go_roundg (m - (i + 1))
            case measure => omega
            case rel =>
              refine ⟨i + 1, o ++ r, rfl, by omega, by go_num, rfl, ?_, hW3.trans (hW5.mono hW3.size)⟩
              unfold Hid
              rw [jn, if_neg (by omega), if_neg (by rw [decide_eq_false HDO.out]; decide), ← HPI.out]
              simp only [ba_app, HO.out, HR.out]
              simp
      · have him : i = m := by omega
        subst him
        have hc1 : ¬ 9223372036854775807 < o.size + 1 := by omega
        go_wp2
        go_ret
        refine ⟨⟨_, rfl, ?_⟩, hWw⟩
        rw [ba_app, HO.out, HX.out, HJ.out]
        simp

theorem texts {l : List Dm} (hF : Fine l) : ∀ (f k : Nat), k < l.length → l.length - k ≤ f → TxtOk l k
  | 0, k, h1, h2 => by omega
  | f + 1, k, h1, h2 => text_of hF k h1 (fun p hp1 hp2 => texts hF f p hp2 (by omega))
end Go.Proofs.YtjgpjafndaikcaaGreatDoor

/-
  What spec.DataText answers.
-/
namespace Go.Proofs.YtjgpjafndaikcaaGreatDoor
open Go.RowKit
set_option linter.unusedVariables false

theorem jn_app {g : Nat → List UInt8} {dot : Bool} {m : Nat} {q t : List Nat} : ∀ i, i ≤ q.length → jn g dot m (q ++ t) i = jn g dot m q i
  | 0, _ => rfl
  | i + 1, hi => by
    rw [jn, jn, jn_app i (by omega)]
    congr 4
    simp only [List.getD, List.getElem?_append_left (show i < q.length by omega)]
theorem kid_pre (l : List Dm) (u : Int) (a e : Nat) (h : a ≤ e) : ∃ t, kid l e u = kid l a u ++ t := by
  unfold kid
  refine ⟨((List.range (e - a)).map (a + ·)).filter (fun i => decide (u < (i : Int)) && decide (du l i = u)), ?_⟩
  rw [← List.filter_append, ← List.range_add, show a + (e - a) = e by omega]
theorem jnK_mono (l : List Dm) (g : Nat → List UInt8) (u : Int) (a : Nat) (h : a ≤ l.length) : (jnK l g a u).length ≤ (jnK l g l.length u).length := by
  obtain ⟨t, ht⟩ := kid_pre l u a l.length h
  have h1 : jnK l g a u = jn g (dotK l u) (kid l l.length u).length (kid l l.length u) (kid l a u).length := by
    unfold jnK
    conv => rhs; arg 4; rw [ht]
    rw [jn_app _ (Nat.le_refl _)]
  rw [h1]
  unfold jnK
  refine jn_mono _ _ _ _ _ _ ?_
  rw [ht, List.length_append]; omega
theorem top_step {l : List Dm} (hF : Fine l) {k : Nat} (hk : k < l.length) (hu : du l k = -1) : jnK l (TX l) (k + 1) (-1) = jnK l (TX l) k (-1) ++ ((if 0 < k then [32] else []) ++ TX l k) := by
  have h1 : kid l (k + 1) (-1) = kid l k (-1) ++ [k] := by rw [kid_snoc, if_pos ⟨by omega, hu⟩]
  rw [jnK_snoc (TX l) h1]
  have hd : dotK l (-1) = false := rfl
  rw [hd, Bool.false_and]
  have hs : (0 < (kid l k (-1)).length) ↔ 0 < k := by
    constructor
    · intro h
      by_cases e : k = 0
      · subst e; simp [kid] at h
      · omega
    · intro h
      have h0 := hF.up.up l.length (Nat.le_refl _) 0 (by omega)
      have : 0 ∈ kid l k (-1) := by
        unfold kid
        rw [List.mem_filter]
        refine ⟨List.mem_range.2 h, ?_⟩
        have h2 : du l 0 = -1 := by omega
        simp [h2]
      exact List.length_pos_of_mem this
  by_cases e : 0 < k
  · rw [if_pos e, if_pos (hs.2 e)]; rfl
  · rw [if_neg e, if_neg (fun h => e (hs.1 h))]; rfl
theorem top_skip {l : List Dm} {k : Nat} (hu : du l k ≠ -1) : jnK l (TX l) (k + 1) (-1) = jnK l (TX l) k (-1) := by
  have h1 : kid l (k + 1) (-1) = kid l k (-1) := by rw [kid_snoc, if_neg (fun h => hu h.2), List.append_nil]
  unfold jnK; rw [h1]

set_option maxHeartbeats 4000000 in
set_option maxRecDepth 100000 in
theorem specDataText_any (b : Nat) (l : List Dm) (w0 : World) (hs : ∀ i, i < l.length → (dt l i).size ≤ 1048576) (hD0 : DatAt w0 b l) :
    Calls Tryz.prog 12 #[slV b l] w0 fun e w' => DtAns l e ∧ Below w0.heap.size w0 w' := by
  have hz := zero_dm.1
  have HS := hideT' hs
  have HD0 := hideT' hD0
  have hb0 := RowAt.lt hD0
  clear hs
  go_enter Tryz.func12, Tryz.ntmps12
  go_wp2_with fail
  refine (specGoodData_any b l w0 (fun i hi => Nat.le_trans (HS.out i hi) (by unfold maxLen; omega)) hD0).mono ?_
  rintro e w ⟨rfl, hW0⟩
  have HD : Hid (DatAt w b l) := RowAt.below HD0.out hW0 hb0
  have hb := RowAt.lt HD.out
  clear hD0
  cases hg : goodAll l with
  | false =>
    have HA : Hid (DtAns l (.returned (.tuple #[.string ⟨#[]⟩, .bool false]))) := .inr ⟨by rw [hg]; rfl, rfl⟩
    clear hg
    go_wp2
    go_ret2
    exact ⟨HA.out, hW0⟩
  | true =>
    have HF := hideT' (fine_of hg HS.out)
    have HG := hideT' hg
    clear hg
    have hn3 := HF.out.few
    have HJB := hideT' (jn_bound HF.out HD.out (-1) 0 (by omega) (by omega))
    go_wp2_with fail
    go_loopg [4, 12] l.length (fun g x i wr => ∃ (k : Nat) (o : ByteArray), g = l.length - k ∧ k ≤ l.length ∧ i = .int .i64 (k : Int) ∧ x = .string o ∧ Hid (o.data.toList = jnK l (TX l) k (-1)) ∧ Below w.heap.size w wr)
    case atStart => exact ⟨0, ⟨#[]⟩, rfl, by omega, rfl, rfl, rfl, Below.refl _ _⟩
    case round =>
      obtain ⟨k, o, hg, hk, rfl, rfl, HO, hW⟩ := hrel
      have hWs := hW.size
      have hos : o.size ≤ 660000000 := by
        have h1 : o.data.toList.length = o.size := by simp
        have h2 := jnK_mono l (TX l) (-1) k hk
        have h3 := HJB.out
        rw [HO.out] at h1
        omega
      by_cases hlt : (k : Int) < (l.length : Int)
      · have hk' : k < l.length := by omega
        have hDr : DatAt wr b l := RowAt.below HD.out hW hb
        have A : DmAt (wr.alloc (.cells (dmC default) 38)) wr.heap.size default := RowAt.new wr _ _
        obtain ⟨q, t, y, hd, hq, ht, hy⟩ := dm_parts l k
        have HDM := hideT' hd
        have HY := hideT' hy
        clear hd hq ht hy
        have hBn : ∀ w1, (wr.alloc (.cells (dmC default) 38)).grownBy w1 (some wr.heap.size) → Below w.heap.size w w1 := fun w1 hg => (hW.alloc hWs _).grown hg (by simp; omega) (by intro k hk; injection hk; omega)
        have HBn := hideT' hBn
        clear hBn
        have hc1 : ¬ 9223372036854775807 < o.size + 1 := by omega
        by_cases hym : y = -1
        · have HST := hideT' (top_step HF.out hk' (by rw [← HY.out]; exact hym))
          subst hym
          by_cases hk0 : (0 : Int) < (k : Int)
          · go_wp2_with (first | (refine load_dm rfl _ rfl b k rfl l hDr hk' ⟨q, t, -1⟩ HDM.out ?_) | (refine store_dv rfl _ _ rfl rfl wr.heap.size ⟨q, t, -1⟩ rfl rfl default A ?_; intro w1 hN1 hg1 hs1; have c2 : w1.cell? ⟨wr.heap.size, 2, none⟩ = some (.int .i64 (-1)) := dm_c2 hN1; clear hs1))
            have hW1 := HBn.out w1 hg1
            refine (texts HF.out (l.length - k) k hk' (Nat.le_refl _) b w1 (RowAt.below HD.out hW1 hb)).mono ?_
            rintro e w5 ⟨⟨r, rfl, hr⟩, hW5⟩
            have hrs : r.size ≤ 660000000 := by have h1 : r.data.toList.length = r.size := (by simp); rw [hr] at h1; have := tx_bound HF.out HD.out hk'; omega
            have HR := hideT' hr
            clear hr
            have hc2 : ¬ 9223372036854775807 < o.size + 1 + r.size := by omega
            have hc3 : ¬ 9223372036854775807 < o.size + (1 + r.size) := by omega
            go_wp2
            go_roundg (l.length - (k + 1))
            case measure => omega
            case rel =>
              refine ⟨k + 1, (o ++ ⟨#[32]⟩) ++ r, rfl, by omega, by go_num, rfl, ?_, hW1.trans (hW5.mono hW1.size)⟩
              unfold Hid
              rw [HST.out, if_pos (by omega)]
              simp only [ba_app, HO.out, HR.out]
              simp
          · go_wp2_with (first | (refine load_dm rfl _ rfl b k rfl l hDr hk' ⟨q, t, -1⟩ HDM.out ?_) | (refine store_dv rfl _ _ rfl rfl wr.heap.size ⟨q, t, -1⟩ rfl rfl default A ?_; intro w1 hN1 hg1 hs1; have c2 : w1.cell? ⟨wr.heap.size, 2, none⟩ = some (.int .i64 (-1)) := dm_c2 hN1; clear hs1))
            have hW1 := HBn.out w1 hg1
            refine (texts HF.out (l.length - k) k hk' (Nat.le_refl _) b w1 (RowAt.below HD.out hW1 hb)).mono ?_
            rintro e w5 ⟨⟨r, rfl, hr⟩, hW5⟩
            have hrs : r.size ≤ 660000000 := by have h1 : r.data.toList.length = r.size := (by simp); rw [hr] at h1; have := tx_bound HF.out HD.out hk'; omega
            have HR := hideT' hr
            clear hr
            have hc2 : ¬ 9223372036854775807 < o.size + r.size := by omega
            go_wp2
            go_roundg (l.length - (k + 1))
            case measure => omega
            case rel =>
              refine ⟨k + 1, o ++ r, rfl, by omega, by go_num, rfl, ?_, hW1.trans (hW5.mono hW1.size)⟩
              unfold Hid
              rw [HST.out, if_neg (by omega)]
              simp only [ba_app, HO.out, HR.out]
              simp
        · have HST := hideT' (top_skip (l := l) (k := k) (by rw [← HY.out]; exact hym))
          have hym' : (y != -1) = true := by simpa using hym
          clear hym
          go_wp2_with (first | (refine load_dm rfl _ rfl b k rfl l hDr hk' ⟨q, t, y⟩ HDM.out ?_) | (refine store_dv rfl _ _ rfl rfl wr.heap.size ⟨q, t, y⟩ rfl rfl default A ?_; intro w1 hN1 hg1 hs1; have c2 : w1.cell? ⟨wr.heap.size, 2, none⟩ = some (.int .i64 (y)) := dm_c2 hN1; clear hs1))
          have hW1 := HBn.out w1 hg1
          go_roundg (l.length - (k + 1))
          case measure => omega
          case rel => exact ⟨k + 1, o, rfl, by omega, by go_num, rfl, by unfold Hid; rw [HST.out]; exact HO.out, hW1⟩
      · have hkn : k = l.length := by omega
        subst hkn
        have hWw := hW0.trans (hW.mono hW0.size)
        have hol : Hid (o.size = (txtAll l).length) := by
          have h1 : o.data.toList.length = o.size := by simp
          unfold Hid txtAll; rw [← h1, HO.out]
        by_cases h15 : (1500 : Int) < (o.size : Int)
        · have HA : Hid (DtAns l (.returned (.tuple #[.string ⟨#[]⟩, .bool false]))) := .inr ⟨by rw [HG.out, decide_eq_false (by have := hol.out; omega)]; rfl, rfl⟩
          go_wp2
          go_ret2
          exact ⟨HA.out, hWw⟩
        · have HA : Hid (DtAns l (.returned (.tuple #[.string o, .bool true]))) := .inl ⟨by rw [HG.out, decide_eq_true (by have := hol.out; omega)]; rfl, o, rfl, HO.out⟩
          go_wp2
          go_ret2
          exact ⟨HA.out, hWw⟩
end Go.Proofs.YtjgpjafndaikcaaGreatDoor

/-
  What the laws' own helpers over data answer.
-/
namespace Go.Proofs.YtjgpjafndaikcaaGreatDoor
open Go.RowKit
set_option linter.unusedVariables false

theorem zero_ldm : (Tryz.prog.info? 37).map (·.size) = some 3 := by kernel_rfl
theorem ldm_c1 {w : World} {b : Nat} {d : Dm} (h : RowAt w b 37 (dmC d)) : w.cell? ⟨b, 1, none⟩ = some (.string d.t) := by rw [cell_of_row w b _ _ _ _ h]; rfl

set_option maxHeartbeats 1000000 in
set_option maxRecDepth 100000 in
theorem szDatum_any (d : Dm) (n : Int) (w : World) (hs : d.t.size ≤ maxLen) (hn0 : 0 ≤ n) (hn1 : n ≤ 1048576) :
    Calls Tryz.prog 18 #[.agg (dmC d), .int .i64 n] w fun e w' => (∃ r : Int, e = .returned (.int .i64 r) ∧ (r = -1 ∨ (0 ≤ r ∧ r ≤ n))) ∧ Below w.heap.size w w' := by
  have hR := RowAt.new w 37 (dmC d)
  have c1 := ldm_c1 hR
  have hB : Below w.heap.size w (w.alloc (.cells (dmC d) 37)) := (Below.refl _ _).alloc (Nat.le_refl _) _
  obtain ⟨k, t, u⟩ := d
  simp only at c1 hs
  unfold maxLen at hs
  clear hR
  by_cases h : n - (t.size : Int) < 0
  · go_enter Tryz.func18, Tryz.ntmps18
    go_wp2
    go_ret
    exact ⟨⟨-1, rfl, .inl rfl⟩, hB⟩
  · go_enter Tryz.func18, Tryz.ntmps18
    go_wp2
    go_ret
    exact ⟨⟨n - (t.size : Int), rfl, .inr ⟨by omega, by omega⟩⟩, hB⟩

set_option maxHeartbeats 1000000 in
set_option maxRecDepth 100000 in
theorem toDatum_any (d : Dm) (w : World) :
    Calls Tryz.prog 26 #[.agg (dmC d)] w fun e w' => e = .returned (.agg (dmC d)) ∧ Below w.heap.size w w' := by
  have hz : ∀ w, (zeroValue 38).run Tryz.prog w = .ok (.agg #[.int .i64 0, .string ⟨#[]⟩, .int .i64 0]) w := zero_dm.1
  obtain ⟨k, t, u⟩ := d
  show Calls Tryz.prog 26 #[.agg #[.int .i64 k, .string t, .int .i64 u]] w fun e w' => e = .returned (.agg #[.int .i64 k, .string t, .int .i64 u]) ∧ Below w.heap.size w w'
  go_enter Tryz.func26, Tryz.ntmps26
  go_wp2
  refine bodyPost_ret (v := .agg #[.int .i64 k, .string t, .int .i64 u]) (results_cell_row Tryz.results26 _ _ (w.heap.size + 1) 38 #[.int .i64 k, .string t, .int .i64 u] (0, 0) _ rfl (RowAt.old (by have := RowAt.new (w.alloc (.cells #[.int .i64 k, .string t, .int .i64 u] 37)) 38 #[.int .i64 k, .string t, .int .i64 u]; rwa [World.size_alloc] at this) _) Tryz.underlying38 rfl zero_dm.2) rfl ⟨rfl, ?_⟩
  exact (((Below.refl _ _).alloc (Nat.le_refl _) _).alloc (by simp) _).alloc (by simp; omega) _

/-- Data that came in: their cells. -/
def ArgAt (w : World) (a : Addr) (l : List Dm) : Prop := ∀ i j v, i < l.length → (dmL (l.getD i default))[j]? = some v → w.cell? ((a.add (i * 3)).add j) = some v
section
variable {P : Program}
theorem run_loadVar_addr (w : World) (a : Addr) (ty : TypeId) (cs : List Value) (d : TypeDesc) (hc : ∀ j v, cs[j]? = some v → w.cell? (a.add j) = some v)
    (hu : P.underlying ty = some d) (hd : d.isRow = true) (hi : (P.info? ty).map (·.size) = some cs.length) :
    (loadVar ty a).run P w = .ok (.agg cs.toArray) w := by
  have hl : (loadCells a cs.length).run P w = .ok cs.toArray w := run_loadCells_list (P := P) w a cs hc
  cases hq : P.info? ty with
  | none => simp [hq] at hi
  | some i =>
    have hs : i.size = cs.length := by simpa [hq] using hi
    have hagg : (isAgg ty).run P w = .ok true w := by
      unfold isAgg
      rw [Sem.run_bind, run_underlying hu w]
      cases d <;> simp_all
    simp [loadVar, Sem.run_bind, hagg, sizeOf, typeInfo, hq, hs, hl]
end
/-- A node that came in is read. -/
theorem load_arg {ops : Array Oper} {rest : List Oper} {op : Oper} {a : Act} {w : World} {Q : Exit → Act → World → Prop} (hgd : op.guard = none) (x : Operand) (ho : op.op = .load 37 x)
    (A : Addr) (i : Nat) (hx : a.eval x = .pointer (some (A.add (i * 3)))) (l : List Dm) (hD : ArgAt w A l) (hi : i < l.length) (d : Dm) (hd : l.getD i default = d)
    (h : wpList Tryz.prog ops Q rest (a.put op.dst (.agg (dmC d))) w) : wpList Tryz.prog ops Q (op :: rest) a w := by
  subst hd
  refine wpList_plain hgd fun _ hK => ?_
  unfold Oper.wp execOp
  simp only [ho, hx, Instr.loadAt, Instr.sureAddr, Sem.run_bind, Sem.run_pure, Result.andThen_ok, run_loadVar_addr w (A.add (i * 3)) 37 (dmL (l.getD i default)) _ (fun j v hv => hD i j v hi hv) Tryz.underlying37 rfl zero_ldm]
  exact hK _ _ h

/-- A slice of data that came in. -/
def SlIn (w : World) (v : Value) (l : List Dm) : Prop := (v = .slice none 0 0 ∧ l = []) ∨ ∃ (a : Addr) (cap : Nat), v = .slice (some a) l.length cap ∧ ArgAt w a l ∧ (0 < l.length → a.block < w.heap.size)
theorem SlIn.below {w w' : World} {v : Value} {l : List Dm} (h : SlIn w v l) (hB : Below w.heap.size w w') : SlIn w' v l := by
  rcases h with h | ⟨a, cap, rfl, h, hb⟩
  · exact .inl h
  · refine .inr ⟨a, cap, rfl, fun i j u hi hv => ?_, fun hl => Nat.lt_of_lt_of_le (hb hl) hB.size⟩
    rw [hB.cell (by
      have := hb (by omega)
      unfold Addr.add; split <;> split <;> exact this)]
    exact h i j u hi hv

set_option maxHeartbeats 1000000 in
set_option maxRecDepth 100000 in
theorem szDatumS_any (l : List Dm) (v : Value) (n : Int) (w : World) (hv : SlIn w v l) (hs : ∀ i, i < l.length → (dt l i).size ≤ maxLen) (hn0 : 0 ≤ n) (hn1 : n ≤ 1048576) (hl : l.length ≤ maxLen) :
    Calls Tryz.prog 7 #[v, .int .i64 n] w fun e w' => (∃ r : Int, e = .returned (.int .i64 r) ∧ (r = -1 ∨ (0 ≤ r ∧ r ≤ n ∧ (l.length : Int) ≤ n))) ∧ Below w.heap.size w w' := by
  unfold maxLen at hl
  have HS := hideT' hs
  have HV := hideT' hv
  clear hs
  rcases hv with ⟨rfl, rfl⟩ | ⟨A, cap, rfl, hA, hb⟩
  · have h1 : ¬ n < 0 := by omega
    go_enter Tryz.func7, Tryz.ntmps7
    go_wp2_with fail
    go_loopg [1, 5] 0 (fun g x i wr => x = .int .i64 n ∧ i = .int .i64 0 ∧ wr = w)
    case atStart => exact ⟨by go_num, rfl, rfl⟩
    case round =>
      obtain ⟨rfl, rfl, rfl⟩ := hrel
      go_wp2
      go_ret
      exact ⟨⟨n, rfl, .inr ⟨hn0, by omega, by simpa using hn0⟩⟩, Below.refl _ _⟩
  · by_cases h : n - (l.length : Int) < 0
    · go_enter Tryz.func7, Tryz.ntmps7
      go_wp2
      go_ret
      exact ⟨⟨-1, rfl, .inl rfl⟩, Below.refl _ _⟩
    · go_enter Tryz.func7, Tryz.ntmps7
      go_wp2_with fail
      go_loopg [1, 5] l.length (fun g x i wr => ∃ (m : Int) (k : Nat), g = l.length - k ∧ k ≤ l.length ∧ x = .int .i64 m ∧ 0 ≤ m ∧ m ≤ n ∧ i = .int .i64 (k : Int) ∧ Below w.heap.size w wr)
      case atStart => exact ⟨n - (l.length : Int), 0, rfl, by omega, by go_num, by omega, by omega, rfl, Below.refl _ _⟩
      case round =>
        obtain ⟨m, k, hg, hk, rfl, hm0, hm1, rfl, hW⟩ := hrel
        by_cases hlt : (k : Int) < (l.length : Int)
        · have hk' : k < l.length := by omega
          have hAr : ArgAt wr A l := by
            rcases HV.out.below hW with ⟨h1, _⟩ | ⟨A', cap', h1, h2, _⟩
            · cases h1
            · cases h1; exact h2
          obtain ⟨q, t, y, hd, hq, ht, hy⟩ := dm_parts l k
          have HDM := hideT' hd
          have hts : t.size ≤ maxLen := by rw [ht]; exact HS.out k hk'
          clear hd hq ht hy
          go_wp2_with (refine load_arg rfl _ rfl A k rfl l hAr hk' ⟨q, t, y⟩ HDM.out ?_)
          refine (szDatum_any ⟨q, t, y⟩ m _ hts hm0 (by omega)).mono ?_
          rintro e w2 ⟨⟨r, rfl, hr⟩, hW2⟩
          have hW3 := hW.trans (hW2.mono hW.size)
          rcases hr with rfl | ⟨hr0, hr1⟩
          · go_wp2
            go_ret
            exact ⟨⟨-1, rfl, .inl rfl⟩, hW3⟩
          · have hr2 : ¬ r < 0 := by omega
            go_wp2
            go_roundg (l.length - (k + 1))
            case measure => omega
            case rel => exact ⟨r, k + 1, rfl, by omega, rfl, hr0, by omega, by go_num, hW3⟩
        · go_wp2
          go_ret
          exact ⟨⟨m, rfl, .inr ⟨hm0, hm1, by omega⟩⟩, hW⟩
end Go.Proofs.YtjgpjafndaikcaaGreatDoor

/-
  How much data the laws take: what szDatumS says of the nodes' texts besides.
-/
namespace Go.Proofs.YtjgpjafndaikcaaGreatDoor
open Go.RowKit
set_option linter.unusedVariables false

set_option maxHeartbeats 1000000 in
set_option maxRecDepth 100000 in
theorem szDatum2_any (d : Dm) (n : Int) (w : World) (hs : d.t.size ≤ maxLen) (hn0 : 0 ≤ n) (hn1 : n ≤ 1048576) :
    Calls Tryz.prog 18 #[.agg (dmC d), .int .i64 n] w fun e w' => (∃ r : Int, e = .returned (.int .i64 r) ∧ (r = -1 ∨ (0 ≤ r ∧ r ≤ n ∧ (d.t.size : Int) ≤ n))) ∧ Below w.heap.size w w' := by
  have hR := RowAt.new w 37 (dmC d)
  have c1 := ldm_c1 hR
  have hB : Below w.heap.size w (w.alloc (.cells (dmC d) 37)) := (Below.refl _ _).alloc (Nat.le_refl _) _
  obtain ⟨k, t, u⟩ := d
  simp only at c1 hs
  unfold maxLen at hs
  clear hR
  by_cases h : n - (t.size : Int) < 0
  · go_enter Tryz.func18, Tryz.ntmps18
    go_wp2
    go_ret
    exact ⟨⟨-1, rfl, .inl rfl⟩, hB⟩
  · go_enter Tryz.func18, Tryz.ntmps18
    go_wp2
    go_ret
    exact ⟨⟨n - (t.size : Int), rfl, .inr ⟨by omega, by omega, by show (t.size : Int) ≤ n; omega⟩⟩, hB⟩

set_option maxHeartbeats 1000000 in
set_option maxRecDepth 100000 in
theorem szDatumS2_any (l : List Dm) (v : Value) (n : Int) (w : World) (hv : SlIn w v l) (hs : ∀ i, i < l.length → (dt l i).size ≤ maxLen) (hn0 : 0 ≤ n) (hn1 : n ≤ 1048576) (hl : l.length ≤ maxLen) :
    Calls Tryz.prog 7 #[v, .int .i64 n] w fun e w' => (∃ r : Int, e = .returned (.int .i64 r) ∧ (r = -1 ∨ (0 ≤ r ∧ r ≤ n ∧ (l.length : Int) ≤ n ∧ ∀ i, i < l.length → ((dt l i).size : Int) ≤ n))) ∧ Below w.heap.size w w' := by
  unfold maxLen at hl
  have HS := hideT' hs
  have HV := hideT' hv
  clear hs
  rcases hv with ⟨rfl, rfl⟩ | ⟨A, cap, rfl, hA, hb⟩
  · have h1 : ¬ n < 0 := by omega
    go_enter Tryz.func7, Tryz.ntmps7
    go_wp2_with fail
    go_loopg [1, 5] 0 (fun g x i wr => x = .int .i64 n ∧ i = .int .i64 0 ∧ wr = w)
    case atStart => exact ⟨by go_num, rfl, rfl⟩
    case round =>
      obtain ⟨rfl, rfl, rfl⟩ := hrel
      go_wp2
      go_ret
      exact ⟨⟨n, rfl, .inr ⟨hn0, by omega, by simpa using hn0, fun i hi => by simp at hi⟩⟩, Below.refl _ _⟩
  · by_cases h : n - (l.length : Int) < 0
    · go_enter Tryz.func7, Tryz.ntmps7
      go_wp2
      go_ret
      exact ⟨⟨-1, rfl, .inl rfl⟩, Below.refl _ _⟩
    · go_enter Tryz.func7, Tryz.ntmps7
      go_wp2_with fail
      go_loopg [1, 5] l.length (fun g x i wr => ∃ (m : Int) (k : Nat), g = l.length - k ∧ k ≤ l.length ∧ x = .int .i64 m ∧ 0 ≤ m ∧ m ≤ n ∧ i = .int .i64 (k : Int) ∧ Hid (∀ j, j < k → ((dt l j).size : Int) ≤ n) ∧ Below w.heap.size w wr)
      case atStart => exact ⟨n - (l.length : Int), 0, rfl, by omega, by go_num, by omega, by omega, rfl, fun j hj => by omega, Below.refl _ _⟩
      case round =>
        obtain ⟨m, k, hg, hk, rfl, hm0, hm1, rfl, HZ, hW⟩ := hrel
        by_cases hlt : (k : Int) < (l.length : Int)
        · have hk' : k < l.length := by omega
          have hAr : ArgAt wr A l := by
            rcases HV.out.below hW with ⟨h1, _⟩ | ⟨A', cap', h1, h2, _⟩
            · cases h1
            · cases h1; exact h2
          obtain ⟨q, t, y, hd, hq, ht, hy⟩ := dm_parts l k
          have HDM := hideT' hd
          have hts : t.size ≤ maxLen := by rw [ht]; exact HS.out k hk'
          have HTT := hideT' ht
          clear hd hq ht hy
          go_wp2_with (refine load_arg rfl _ rfl A k rfl l hAr hk' ⟨q, t, y⟩ HDM.out ?_)
          refine (szDatum2_any ⟨q, t, y⟩ m _ hts hm0 (by omega)).mono ?_
          rintro e w2 ⟨⟨r, rfl, hr⟩, hW2⟩
          have hW3 := hW.trans (hW2.mono hW.size)
          rcases hr with rfl | ⟨hr0, hr1, hr5⟩
          · go_wp2
            go_ret
            exact ⟨⟨-1, rfl, .inl rfl⟩, hW3⟩
          · have hr2 : ¬ r < 0 := by omega
            have HZ2 : Hid (∀ j, j < k + 1 → ((dt l j).size : Int) ≤ n) := fun j hj => by
              by_cases e : j = k
              · subst e; rw [← HTT.out]; simp only at hr5; omega
              · exact HZ.out j (by omega)
            clear hr5
            go_wp2
            go_roundg (l.length - (k + 1))
            case measure => omega
            case rel => exact ⟨r, k + 1, rfl, by omega, rfl, hr0, by omega, by go_num, HZ2, hW3⟩
        · go_wp2
          go_ret
          exact ⟨⟨m, rfl, .inr ⟨hm0, hm1, by omega, fun i hi => HZ.out i (by omega)⟩⟩, hW⟩
end Go.Proofs.YtjgpjafndaikcaaGreatDoor

/-
  The laws' copies of data, and whether two are the same.
-/
namespace Go.Proofs.YtjgpjafndaikcaaGreatDoor
open Go.RowKit
set_option linter.unusedVariables false

theorem datC_set (l : List Dm) (i : Nat) (d : Dm) (hi : i < l.length) : datC (l.set i d) = ((l.take i).flatMap dmL ++ dmL d ++ (l.drop (i + 1)).flatMap dmL).toArray := by
  unfold datC
  rw [List.set_eq_take_append_cons_drop, if_pos hi, List.flatMap_append, List.flatMap_cons, List.append_assoc]
theorem datC_split (l : List Dm) (i : Nat) (hi : i < l.length) : datC l = ((l.take i).flatMap dmL ++ dmL l[i] ++ (l.drop (i + 1)).flatMap dmL).toArray := by
  have := datC_set l i l[i] hi
  rwa [List.set_getElem_self] at this
/-- A node of a row is written. -/
theorem store_dm {ops : Array Oper} {rest : List Oper} {op : Oper} {a : Act} {w : World} {Q : Exit → Act → World → Prop} (hgd : op.guard = none) (x y : Operand) (ho : op.op = .store 38 x y) (hd : op.dst = none)
    (b i : Nat) (d : Dm) (hx : a.eval x = .pointer (some ⟨b, i * 3, none⟩)) (hy : a.eval y = .agg (dmC d)) (l : List Dm) (hD : DatAt w b l) (hi : i < l.length)
    (h : ∀ w', DatAt w' b (l.set i d) → w.grownBy w' (some b) → w'.heap.size = w.heap.size → wpList Tryz.prog ops Q rest a w') : wpList Tryz.prog ops Q (op :: rest) a w := by
  have hD' : RowAt w b 38 ((l.take i).flatMap dmL ++ dmL l[i] ++ (l.drop (i + 1)).flatMap dmL).toArray := by rw [← datC_split l i hi]; exact hD
  have hlen : ((l.take i).flatMap dmL).length = i * 3 := by rw [dat_len, List.length_take]; omega
  have hth := RowAt.there hD'
  rw [hlen] at hth
  refine wpList_store_mid hgd 38 x y ho b (i * 3) (dmC d) hx hy hth zero_dm.2 (dmC_one d) ?_
  have e : a.put op.dst undef = a := by rw [hd]; rfl
  rw [e]
  have hput := RowAt.put (dmL d) (i * 3) w ((l.take i).flatMap dmL) (dmL l[i]) ((l.drop (i + 1)).flatMap dmL) rfl hlen hD'
  rw [← datC_set l i d hi] at hput
  refine h _ hput ⟨?_, ?_, ?_, ?_, ?_⟩ ?_
  · rfl
  · rfl
  · rfl
  · simp [World.setCells, dmC, dmL]
  · intro k _ hne
    simp only [World.setCells, dmC, dmL]
    have hk : k ≠ b := fun e => hne (by rw [e])
    rw [Below.heap_setCell _ _ _ _ hk, Below.heap_setCell _ _ _ _ hk, Below.heap_setCell _ _ _ _ hk]
  · simp [World.setCells, dmC, dmL]

theorem info_dm : (Tryz.prog.info? 38).map (fun i => (i.zero, i.size, i.bytes)) = some (some (.agg #[.int .i64 0, .string ⟨#[]⟩, .int .i64 0]), 3, 32) := by kernel_rfl
theorem run_make_data (n : Nat) (hn : n ≤ 1048576) (w : World) : (Instr.makeSlice 25 (.int .i64 (n : Int)) (.int .i64 (n : Int))).run Tryz.prog w = .ok (.slice (some ⟨w.heap.size, 0, none⟩) n n) (w.alloc (.cells (madeCells #[.int .i64 0, .string ⟨#[]⟩, .int .i64 0] (n * 3)) 38)) := by
  obtain ⟨i, hi, hzz⟩ := Option.map_eq_some_iff.1 info_dm
  simp only [Prod.mk.injEq] at hzz
  obtain ⟨hz, hs, hb⟩ := hzz
  have hr := run_make (P := Tryz.prog) w 25 38 i _ Tryz.underlying25 hi hz .i64 .i64 n n (by omega) (Int.le_refl _) (by rw [hb]; omega) (by omega)
  simp only [Int.toNat_natCast, hs] at hr
  exact hr
theorem made_dat (n : Nat) : madeCells #[.int .i64 0, .string ⟨#[]⟩, .int .i64 0] (n * 3) = datC (List.replicate n default) := by
  apply Array.ext_getElem?
  intro i
  by_cases hi : i < n * 3
  · have hr : (Array.range (n * 3))[i]? = some i := by rw [Array.getElem?_eq_getElem (by rw [Array.size_range]; omega), Array.getElem_range]
    have h1 := flat_get (List.replicate n default) (i / 3) (i % 3) (by simp; omega) (by omega)
    rw [show 3 * (i / 3) + i % 3 = i by omega] at h1
    have h2 : (datC (List.replicate n default))[i]? = (dmL default)[i % 3]? := by unfold datC; rw [List.getElem?_toArray, h1, List.getElem_replicate]
    rw [h2]
    simp only [madeCells, Array.getElem?_map, hr, Option.map_some]
    rcases (by omega : i % 3 = 0 ∨ i % 3 = 1 ∨ i % 3 = 2) with e | e | e
    all_goals rw [show i % (#[Value.int .i64 0, .string ⟨#[]⟩, .int .i64 0] : Array Value).size = i % 3 from rfl, e]; rfl
  · rw [Array.getElem?_eq_none (by rw [size_madeCells]; omega), Array.getElem?_eq_none]
    unfold datC
    rw [List.size_toArray, dat_len, List.length_replicate]; omega

theorem take_set (l : List Dm) (k : Nat) (hk : k < l.length) : (l.take k ++ List.replicate (l.length - k) default).set k l[k] = l.take (k + 1) ++ List.replicate (l.length - (k + 1)) default := by
  have h1 : (l.take k).length = k := by rw [List.length_take]; omega
  obtain ⟨m, hm⟩ : ∃ m, l.length - k = m + 1 := ⟨l.length - k - 1, by omega⟩
  rw [hm, List.replicate_succ, List.set_append_right _ _ (by omega), h1, Nat.sub_self, List.set_cons_zero, List.take_succ_eq_append_getElem hk, show l.length - (k + 1) = m by omega, List.append_assoc]
  rfl

set_option maxHeartbeats 1000000 in
set_option maxRecDepth 100000 in
theorem toDatumS_any (l : List Dm) (v : Value) (w : World) (hv : SlIn w v l) (hl : l.length ≤ 1048576) :
    Calls Tryz.prog 9 #[v] w fun e w' => (∃ b : Nat, e = .returned (slV b l) ∧ w.heap.size ≤ b ∧ DatAt w' b l) ∧ Below w.heap.size w w' := by
  have HV := hideT' hv
  have hnew : DatAt (w.alloc (.cells (madeCells #[.int .i64 0, .string ⟨#[]⟩, .int .i64 0] (l.length * 3)) 38)) w.heap.size (l.take 0 ++ List.replicate (l.length - 0) default) := by
    unfold DatAt
    rw [made_dat]
    exact RowAt.new w _ _
  have hBn : Below w.heap.size w (w.alloc (.cells (madeCells #[.int .i64 0, .string ⟨#[]⟩, .int .i64 0] (l.length * 3)) 38)) := (Below.refl _ _).alloc (Nat.le_refl _) _
  have HN := hideT' (And.intro hnew hBn)
  clear hnew hBn
  rcases hv with ⟨rfl, rfl⟩ | ⟨A, cap, rfl, hA, hb⟩
  · have hmk : ∀ w, (Instr.makeSlice 25 (.int .i64 0) (.int .i64 0)).run Tryz.prog w = .ok (.slice (some ⟨w.heap.size, 0, none⟩) 0 0) (w.alloc (.cells (madeCells #[.int .i64 0, .string ⟨#[]⟩, .int .i64 0] (0 * 3)) 38)) := fun w => run_make_data 0 (by omega) w
    go_enter Tryz.func9, Tryz.ntmps9
    go_wp2_with fail
    clear hmk
    go_loopg [4] 0 (fun g i wr => i = .int .i64 0 ∧ DatAt wr w.heap.size [] ∧ Below w.heap.size w wr)
    case atStart => exact ⟨rfl, HN.out.1, HN.out.2⟩
    case round =>
      obtain ⟨rfl, hD, hW⟩ := hrel
      go_wp2
      go_ret
      exact ⟨⟨w.heap.size, rfl, Nat.le_refl _, hD⟩, hW⟩
  · have hmk := run_make_data l.length hl
    go_enter Tryz.func9, Tryz.ntmps9
    go_wp2_with fail
    clear hmk
    go_loopg [4] l.length (fun g i wr => ∃ k : Nat, g = l.length - k ∧ k ≤ l.length ∧ i = .int .i64 (k : Int) ∧ DatAt wr w.heap.size (l.take k ++ List.replicate (l.length - k) default) ∧ Below w.heap.size w wr)
    case atStart => exact ⟨0, rfl, by omega, rfl, HN.out.1, HN.out.2⟩
    case round =>
      obtain ⟨k, hg, hk, rfl, hD, hW⟩ := hrel
      have hsl := RowAt.lt hD
      by_cases hlt : (k : Int) < (l.length : Int)
      · have hk' : k < l.length := by omega
        have hAr : ArgAt wr A l := by
          rcases HV.out.below hW with ⟨h1, _⟩ | ⟨A', cap', h1, h2, _⟩
          · cases h1
          · cases h1; exact h2
        obtain ⟨d, hd⟩ : ∃ d, d = l.getD k default := ⟨_, rfl⟩
        have HDM := hideT' hd.symm
        clear hd
        have hlen : (l.take k ++ List.replicate (l.length - k) default).length = l.length := by simp; omega
        have HLN := hideT' hlen
        clear hlen
        go_wp2_with (refine load_arg rfl _ rfl A k rfl l hAr hk' d HDM.out ?_)
        refine (toDatum_any d _).mono ?_
        rintro e w2 ⟨rfl, hW2⟩
        have hD2 : DatAt w2 w.heap.size (l.take k ++ List.replicate (l.length - k) default) := RowAt.below hD hW2 hsl
        have hW3 := hW.trans (hW2.mono hW.size)
        have hs2 := hW2.size
        clear hD hW2
        go_wp2_with (refine store_dm rfl _ _ rfl rfl w.heap.size k d rfl rfl _ hD2 (by rw [HLN.out]; exact hk') ?_; intro w3 hD3 hg3 hs3)
        go_roundg (l.length - (k + 1))
        case measure => omega
        case rel =>
          have h1 : d = l[k] := by rw [← HDM.out]; exact getD_at l k hk'
          refine ⟨k + 1, rfl, by omega, by go_num, ?_, hW3.grown hg3 (by omega) (by intro k hk; injection hk; omega)⟩
          rw [h1, take_set l k hk'] at hD3
          exact hD3
      · have hkn : k = l.length := by omega
        subst hkn
        have hDl : DatAt wr w.heap.size l := by
          have := hD
          rwa [List.take_length, Nat.sub_self, List.replicate_zero, List.append_nil] at this
        clear hD
        go_wp2
        go_ret
        exact ⟨⟨w.heap.size, rfl, Nat.le_refl _, hDl⟩, hW⟩

set_option maxHeartbeats 1000000 in
set_option maxRecDepth 100000 in
theorem eqDatum_any (d : Dm) (w : World) :
    Calls Tryz.prog 30 #[.agg (dmC d), .agg (dmC d)] w fun e w' => e = .returned (.bool true) ∧ Below w.heap.size w w' := by
  obtain ⟨k, t, u⟩ := d
  show Calls Tryz.prog 30 #[.agg #[.int .i64 k, .string t, .int .i64 u], .agg #[.int .i64 k, .string t, .int .i64 u]] w fun e w' => e = .returned (.bool true) ∧ Below w.heap.size w w'
  go_enter Tryz.func30, Tryz.ntmps30
  go_wp2
  go_ret
  exact ⟨rfl, ((Below.refl _ _).alloc (Nat.le_refl _) _).alloc (by simp) _⟩

theorem run_dm {o : Oper} {a : Act} {w : World} (x : Operand) (ho : o.op = .load 38 x) (b i : Nat) (hx : a.eval x = .pointer (some ⟨b, i * 3, none⟩)) (l : List Dm) (hD : DatAt w b l) (hi : i < l.length) (d : Dm) (hd : l.getD i default = d) :
    (execOp a.eval o).run Tryz.prog w = .ok (.value (.agg (dmC d))) w := by
  subst hd
  have h := run_loadAt_mid (P := Tryz.prog) w b (i * 3) 38 (dmL (l.getD i default)) _ (dat_range hD hi) Tryz.underlying38 rfl zero_dm.2
  unfold execOp
  simp only [ho, hx, Sem.run_bind, h, Result.andThen_ok]
  rfl

set_option maxHeartbeats 1000000 in
set_option maxRecDepth 100000 in
theorem eqDatumS_any (b c : Nat) (l : List Dm) (w : World) (hl : l.length ≤ 1048576) (h1 : DatAt w b l) (h2 : DatAt w c l) :
    Calls Tryz.prog 11 #[slV b l, slV c l] w fun e w' => e = .returned (.bool true) ∧ Below w.heap.size w w' := by
  have H1 := hideT' h1
  have H2 := hideT' h2
  have hb := RowAt.lt h1
  have hc := RowAt.lt h2
  clear h1 h2
  go_enter Tryz.func11, Tryz.ntmps11
  go_wp2_with fail
  go_loopg [5] l.length (fun g i wr => ∃ k : Nat, g = l.length - k ∧ k ≤ l.length ∧ i = .int .i64 (k : Int) ∧ Below w.heap.size w wr)
  case atStart => exact ⟨0, rfl, by omega, rfl, Below.refl _ _⟩
  case round =>
    obtain ⟨k, hg, hk, rfl, hW⟩ := hrel
    by_cases hlt : (k : Int) < (l.length : Int)
    · have hk' : k < l.length := by omega
      obtain ⟨d, hd⟩ : ∃ d, d = l.getD k default := ⟨_, rfl⟩
      have HDM := hideT' hd.symm
      have hS : DatAt wr.drew b l ∧ DatAt wr.drew c l := ⟨RowAt.below H1.out (Below.drew hW) hb, RowAt.below H2.out (Below.drew hW) hc⟩
      clear hd
      go_wp2_with fail
      refine held_begin (fun w' => DatAt w' b l ∧ DatAt w' c l) (by kernel_rfl) ?_
      refine held_val 0 (some 17) rfl rfl (by kernel_rfl) (by kernel_rfl) (by kernel_rfl) noPanic_put rfl (slV b l) (fun _ => rfl) hS ?_
      simp only [Act.put, List.setIfInBounds_toArray, List.set_cons_zero, List.set_cons_succ]
      refine held_val 1 (some 18) rfl rfl (by kernel_rfl) (by kernel_rfl) (by kernel_rfl) noPanic_put rfl (.int .i64 (k : Int)) (fun _ => rfl) hS ?_
      simp only [Act.put, List.setIfInBounds_toArray, List.set_cons_zero, List.set_cons_succ]
      refine held_val 2 (some 19) rfl rfl (by kernel_rfl) (by kernel_rfl) (by kernel_rfl) noPanic_put rfl (.pointer (some ⟨b, k * 3, none⟩)) (fun _ => by go_simp) hS ?_
      simp only [Act.put, List.setIfInBounds_toArray, List.set_cons_zero, List.set_cons_succ]
      refine held_valS 3 (some 20) rfl rfl (by kernel_rfl) (by kernel_rfl) (by kernel_rfl) noPanic_put rfl (.agg (dmC d)) (fun _ hw' => run_dm _ rfl b k rfl l hw'.1 hk' d HDM.out) hS ?_
      simp only [Act.put, List.setIfInBounds_toArray, List.set_cons_zero, List.set_cons_succ]
      refine held_val 4 (some 21) rfl rfl (by kernel_rfl) (by kernel_rfl) (by kernel_rfl) noPanic_put rfl (slV c l) (fun _ => rfl) hS ?_
      simp only [Act.put, List.setIfInBounds_toArray, List.set_cons_zero, List.set_cons_succ]
      refine held_val 5 (some 22) rfl rfl (by kernel_rfl) (by kernel_rfl) (by kernel_rfl) noPanic_put rfl (.int .i64 (k : Int)) (fun _ => rfl) hS ?_
      simp only [Act.put, List.setIfInBounds_toArray, List.set_cons_zero, List.set_cons_succ]
      refine held_val 6 (some 23) rfl rfl (by kernel_rfl) (by kernel_rfl) (by kernel_rfl) noPanic_put rfl (.pointer (some ⟨c, k * 3, none⟩)) (fun _ => by go_simp) hS ?_
      simp only [Act.put, List.setIfInBounds_toArray, List.set_cons_zero, List.set_cons_succ]
      refine held_valS 7 (some 24) rfl rfl (by kernel_rfl) (by kernel_rfl) (by kernel_rfl) noPanic_put rfl (.agg (dmC d)) (fun _ hw' => run_dm _ rfl c k rfl l hw'.2 hk' d HDM.out) hS ?_
      simp only [Act.put, List.setIfInBounds_toArray, List.set_cons_zero, List.set_cons_succ]
      refine held_call 8 (some 25) (by kernel_rfl) rfl rfl rfl 30 #[.agg (dmC d), .agg (dmC d)] (by go_simp) _ (eqDatum_any d wr.drew) ?_
      rintro e w2 ⟨rfl, hW2⟩
      have hW2 : Below wr.heap.size wr w2 := ⟨hW2.os, hW2.tape, hW2.output, hW2.size, hW2.block⟩
      have hW3 := hW.trans (hW2.mono hW.size)
      have hS2 : DatAt w2 b l ∧ DatAt w2 c l := ⟨RowAt.below H1.out hW3 hb, RowAt.below H2.out hW3 hc⟩
      refine ⟨_, rfl, hS2, ?_⟩
      simp only [Act.put, List.setIfInBounds_toArray, List.set_cons_zero, List.set_cons_succ]
      refine held_val 9 (some 26) rfl rfl (by kernel_rfl) (by kernel_rfl) (by kernel_rfl) noPanic_put rfl (.bool false) (fun _ => by go_simp) hS2 ?_
      simp only [Act.put, List.setIfInBounds_toArray, List.set_cons_zero, List.set_cons_succ]
      refine wpAnyH_done (by kernel_rfl) ?_ _
      refine NoPanic.normal ?_
      go_wp2
      go_roundg (l.length - (k + 1))
      case measure => omega
      case rel => exact ⟨k + 1, rfl, by omega, by go_num, hW3⟩
    · go_wp2
      go_ret
      exact ⟨rfl, hW⟩
end Go.Proofs.YtjgpjafndaikcaaGreatDoor

/-
  Data that came in as an argument: what its reading says of the cells.
-/
namespace Go.Proofs.YtjgpjafndaikcaaGreatDoor
open Go.ChangeShapes Go.WideShapes Go.ChangeAt Go.RowKit
set_option linter.unusedVariables false

theorem laidOut : laidOutB Tryz.prog = true := by kernel_rfl
theorem cells_ldm : Tryz.prog.cellsOf 37 = 3 := by kernel_rfl
theorem cells_int : Tryz.prog.cellsOf 3 = 1 := by kernel_rfl
theorem cells_str : Tryz.prog.cellsOf 9 = 1 := by kernel_rfl

set_option maxRecDepth 100000 in
theorem open_node {H : Type} {enc : TypeId × Value → H} {W : World} {n : Nat} {cs : List Value} {x : DataW H × List MemPlace} (hl : cs.length = 3) (h : DataW.trod enc Tryz.prog W 0 (fun _ => true) true n 37 cs = some x) :
    ∃ d : Dm, cs = dmL d ∧ d.t.size ≤ maxLen := by
  obtain ⟨y0, y1, y2, m, _, _, h0, h1, h2⟩ := Deep.trod_struct3 Tryz.underlying37 h
  obtain ⟨a, b, c, rfl⟩ : ∃ a b c, cs = [a, b, c] := by
    cases cs with
    | nil => cases hl
    | cons a cs => cases cs with
      | nil => cases hl
      | cons b cs => cases cs with
        | nil => cases hl
        | cons c cs => cases cs with
          | nil => exact ⟨a, b, c, rfl⟩
          | cons _ _ => simp at hl
  · have g0 : DataW.trod enc Tryz.prog W 0 (fun _ => true) true m 3 (([a, b, c].drop 0).take (Tryz.prog.cellsOf 3)) = some y0 := h0
    have g1 : DataW.trod enc Tryz.prog W 0 (fun _ => true) true m 9 (([a, b, c].drop 1).take (Tryz.prog.cellsOf 9)) = some y1 := h1
    have g2 : DataW.trod enc Tryz.prog W 0 (fun _ => true) true m 3 (([a, b, c].drop 2).take (Tryz.prog.cellsOf 3)) = some y2 := h2
    rw [cells_int] at g0 g2
    rw [cells_str] at g1
    obtain ⟨k, e0, _, _⟩ := DataW.trod_int Tryz.underlying3 g0
    obtain ⟨t, e1, _, ht⟩ := DataW.trod_string Tryz.underlying9 g1
    obtain ⟨u, e2, _, _⟩ := DataW.trod_int Tryz.underlying3 g2
    simp at e0 e1 e2
    exact ⟨⟨k, t, u⟩, by rw [e0, e1, e2]; rfl, ht⟩

set_option maxRecDepth 100000 in
theorem open_data {H : Type} {enc : TypeId × Value → H} {W : World} {base : Nat} {v : Value} {d : DataW H} {ps : List MemPlace} (hval : Value.okWide Tryz.prog W .any base 22 v) (h : DataW.Trod enc Tryz.prog W 0 (fun _ => true) true 22 v d ps) :
    ∃ l : List Dm, SlIn W v l ∧ (∀ i, i < l.length → (dt l i).size ≤ maxLen) ∧ l.length ≤ maxLen := by
  obtain ⟨a0, len, cap, rfl⟩ := okWide_slice Tryz.underlying22 hval
  obtain ⟨fuel, hf⟩ := h
  rcases Deep.open_slice Tryz.underlying22 hf with ⟨h1, _⟩ | ⟨a, len', cap', m, n, D, Pl, h1, hb, hl, hm, hmm, hx, hel⟩
  · refine ⟨[], .inl ⟨?_, rfl⟩, fun i hi => by simp at hi, by unfold maxLen; simp⟩
    simpa [Value.cells] using h1
  · have hs : Value.slice a0 len cap = .slice (some a) len' cap' := by simpa [Value.cells] using h1
    rw [hs]
    have hlm : len' ≤ m := by rw [hmm]; simp; exact hl
    have each : ∀ i, i < len' → ∃ d : Dm, W.cells? 0 (a.add (i * 3)) 3 = some (dmL d) ∧ d.t.size ≤ maxLen := fun i hi => by
      obtain ⟨cs', g1, g2⟩ := hel i (by omega)
      rw [cells_ldm] at g1
      obtain ⟨_, hlen, _⟩ := World.cells?_some g1
      obtain ⟨d, rfl, ht⟩ := open_node hlen g2
      exact ⟨d, g1, ht⟩
    obtain ⟨f, hfl⟩ := Deep.choose_lt each
    have hlen : ((List.range len').map f).length = len' := by simp
    have hget : ∀ i, i < len' → ((List.range len').map f).getD i default = f i := fun i hi => by simp [List.getD, hi]
    refine ⟨(List.range len').map f, .inr ⟨a, cap', by rw [hlen], fun i j v hi hv => ?_, fun h0 => ?_⟩, fun i hi => ?_, by rw [hlen]; omega⟩
    · rw [hlen] at hi
      rw [hget i hi] at hv
      obtain ⟨_, _, hc⟩ := World.cells?_some (hfl i hi).1
      have hj : j < 3 := by
        have := (List.getElem?_eq_some_iff.1 hv).1
        simpa [dmL] using this
      rw [hc j hj]
      exact hv
    · rw [hlen] at h0
      obtain ⟨_, _, hc⟩ := World.cells?_some (hfl 0 h0).1
      have h2 := hc 0 (by decide)
      have h3 : W.cell? ((a.add (0 * 3)).add 0) = some (.int .i64 (f 0).k) := by rw [h2]; rfl
      exact block_lt_of_cell (a := a) (by simpa [Addr.add] using h3)
    · rw [hlen] at hi
      unfold dt
      rw [hget i hi]
      exact (hfl i hi).2
end Go.Proofs.YtjgpjafndaikcaaGreatDoor
