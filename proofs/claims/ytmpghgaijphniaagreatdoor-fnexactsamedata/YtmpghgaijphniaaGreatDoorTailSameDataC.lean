/-
  The texts ImplGoodData, Same, DatArg, one behind the other, as one.
-/
import Derived.Test.YtmpghgaijphniaaGreatDoorTailSameDataB
import Derived.Deep.Strs
import Derived.Carry
import Derived.WalkKit
import Derived.ProofKit
import Derived.OpenShut
import Derived.ShutString
import Derived.ChangeOld

/-
  What impl.GoodData answers.
-/
namespace Go.Proofs.YtmpghgaijphniaaGreatDoor
open Go.RowKit
set_option linter.unusedVariables false

theorem one_int : (Tryz.prog.info? 3).map (·.size) = some 1 := by kernel_rfl
theorem one_bool : (Tryz.prog.info? 4).map (·.size) = some 1 := by kernel_rfl
theorem seat_a {w : World} {sb : Nat} {l : List Dm} {k j : Nat} (h : SeatAt w sb l k) (hj : j < l.length) (r : Int) (hr : r = ((if j < k then arnd l j else 0 : Nat) : Int)) : w.cell? ⟨sb, j * 3, none⟩ = some (.int .i64 r) := by
  rw [World.rowIs.cell h (by omega), seatF0, hr]
theorem seat_p {w : World} {sb : Nat} {l : List Dm} {k j : Nat} (h : SeatAt w sb l k) (hj : j < l.length) (r : Int) (hr : r = ((prt l k j).length : Int)) : w.cell? ⟨sb, j * 3 + 1, none⟩ = some (.int .i64 r) := by
  rw [World.rowIs.cell h (by omega), seatF1, hr]
theorem seat_e {w : World} {sb : Nat} {l : List Dm} {k j : Nat} (h : SeatAt w sb l k) (hj : j < l.length) (r : Bool) (hr : r = lastL l (prt l k j)) : w.cell? ⟨sb, j * 3 + 2, none⟩ = some (.bool r) := by
  rw [World.rowIs.cell h (by omega), seatF2, hr]
theorem arnd_le {l : List Dm} {j : Nat} (h : deepOk l j = true) : arnd l j ≤ 25 := by
  unfold deepOk at h
  rw [deep_arnd] at h
  have := of_decide_eq_true h
  omega
theorem deep_of {l : List Dm} {k : Nat} (hl : isL (dk l k) = true) : deepOk l k = decide (arnd l k < 25) := by
  unfold deepOk
  rw [deep_arnd, if_pos hl]
  exact decide_eq_decide.2 (by omega)
theorem deep_ofn {l : List Dm} {k : Nat} (hl : isL (dk l k) = false) (h : arnd l k ≤ 25) : deepOk l k = true := by
  unfold deepOk
  rw [deep_arnd, hl]
  exact decide_eq_true (by simpa using h)

def OkTo (l : List Dm) (k : Nat) : Prop := ∀ j, j < k → upOk l j = true ∧ txtOk (dk l j) (dt l j).data.toList = true ∧ deepOk l j = true
theorem OkTo.succ {l : List Dm} {k : Nat} (h : OkTo l k) (h1 : upOk l k = true) (h2 : txtOk (dk l k) (dt l k).data.toList = true) (h3 : deepOk l k = true) : OkTo l (k + 1) := fun j hj => by
  by_cases e : j = k
  · subst e; exact ⟨h1, h2, h3⟩
  · exact h j (by omega)

set_option maxHeartbeats 4000000 in
set_option maxRecDepth 100000 in
/-- Lists around each other, and dotted ones, where all nodes stand in good places and have good texts. -/
theorem goodLists_any (b : Nat) (l : List Dm) (w : World) (hn3 : l.length ≤ 300) (hA : ∀ j, j < l.length → upOk l j = true ∧ txtOk (dk l j) (dt l j).data.toList = true) (hD : DatAt w b l) :
    Calls Tryz.prog 26 #[slV b l] w fun e w' => e = .returned (.bool (goodAll l)) ∧ Below w.heap.size w w' := by
  have hz := zero_dm.1
  have HD := hideT' hD
  have HA := hideT' hA
  have hb := RowAt.lt hD
  clear hD hA
  · have hmk := run_make_seats l.length hn3
    go_enter Tryz.func26, Tryz.ntmps26
    go_wp2_with fail
    clear hmk
    go_loopg [13] l.length (fun g i wr => ∃ k : Nat, g = l.length - k ∧ k ≤ l.length ∧ i = .int .i64 (k : Int) ∧ Hid (OkTo l k) ∧ Hid (Up l k) ∧ SeatAt wr w.heap.size l k ∧ Below w.heap.size w wr)
    case atStart => exact ⟨0, rfl, by omega, rfl, fun j hj => by omega, fun j hj => by omega, seats_new w l, (Below.refl _ _).alloc (Nat.le_refl _) _⟩
    case round =>
      obtain ⟨k, hg, hk, rfl, HK, HU, hSt, hW⟩ := hrel
      have hWs := hW.size
      by_cases hlt : (k : Int) < (l.length : Int)
      · have hk' : k < l.length := by omega
        have hDr : DatAt wr b l := RowAt.below HD.out hW hb
        have hsl : w.heap.size < wr.heap.size := World.rowIs.lt hSt
        have A : DmAt (wr.alloc (.cells (dmC default) 37)) wr.heap.size default := RowAt.new wr _ _
        obtain ⟨q, t, y, hd, hq, ht, hy⟩ := dm_parts l k
        have HDM := hideT' hd
        have HQ := hideT' hq
        have HTX := hideT' ht
        have HY := hideT' hy
        clear hd hq ht hy
        have NO : Hid (nodeOk l k = false → goodAll l = false) := fun h => node_bad hk' h
        have HOK : Hid (upOk l k = true) := (HA.out k hk').1
        have HTO : Hid (txtOk (dk l k) (dt l k).data.toList = true) := (HA.out k hk').2
        have HU2 : Hid (Up l (k + 1)) := HU.out.succ HOK.out
        have hyr := upOk_up HU.out HOK.out
        rw [← HY.out] at hyr
        have WALK : ∀ (w2 : World), DmAt w2 wr.heap.size ⟨q, t, y⟩ → (wr.alloc (.cells (dmC default) 37)).grownBy w2 (some wr.heap.size) → w2.cell? ⟨wr.heap.size, 0, none⟩ = some (.int .i64 q) ∧ w2.cell? ⟨wr.heap.size, 2, none⟩ = some (.int .i64 y) ∧ SeatAt w2 w.heap.size l k ∧ Below w.heap.size w w2 := by
          intro w2 hN2 hg2
          exact ⟨dm_c0 hN2, dm_c2 hN2, SeatAt.grown (World.rowIs.alloc hSt _) hg2 (by intro e; injection e; omega), (hW.alloc hWs _).grown hg2 (by simp; omega) (by intro k hk; injection hk; omega)⟩
        have WK := hideT' WALK
        clear WALK
        clear hW hSt
        · · by_cases hy0 : 0 ≤ y
            · obtain ⟨j, rfl⟩ : ∃ j : Nat, y = (j : Int) := ⟨y.toNat, by omega⟩
              have hjk : j < k := by omega
              have hjl : isL (dk l j) = true := by
                have := upOk_list HOK.out (by rw [← HY.out]; exact hy0)
                rwa [← HY.out, Int.toNat_natCast] at this
              have HJL := hideT' hjl
              have haj := arnd_le (HK.out j hjk).2.2
              obtain ⟨r, hr⟩ : ∃ r : Int, r = (arnd l j : Int) := ⟨_, rfl⟩
              obtain ⟨p, hp⟩ : ∃ p : Int, p = ((prt l k j).length : Int) := ⟨_, rfl⟩
              have hr0 : 0 ≤ r := by omega
              have hr1 : r ≤ 25 := by omega
              have hp0 : 0 ≤ p := by omega
              have hp1 : p ≤ 300 := by have := prt_len l k j; omega
              have HR := hideT' hr
              have HP := hideT' hp
              clear hjl haj hr hp
              go_wp2_with (first | (refine load_dm rfl _ rfl b k rfl l hDr hk' ⟨q, t, (j : Int)⟩ HDM.out ?_) | (refine store_dv rfl _ _ rfl rfl wr.heap.size ⟨q, t, (j : Int)⟩ rfl rfl default A ?_; intro w2 hN2 hg2 hs2; have hK2 := WK.out w2 hN2 hg2; have d0 := hK2.1; have d2 := hK2.2.1; have hSt2 := hK2.2.2.1; have hWw2 := hK2.2.2.2; have hs2' : w2.heap.size = wr.heap.size + 1 := (by rw [hs2]; simp); have ca := seat_a hSt2 (show j < l.length by omega) r (by rw [if_pos hjk]; exact HR.out); clear hK2 hg2 hs2) | (refine store_cell rfl 3 _ _ rfl rfl w.heap.size (k * 3) (.int .i64 (r + 1)) rfl rfl one_int rfl 58 (3 * l.length) (seatF l k) hSt2 (by omega) ?_; intro w3 hR3 hg3 hs3; have cp : w3.cell? ⟨w.heap.size, j * 3 + 1, none⟩ = some (.int .i64 p) := (by rw [World.rowIs.cell hR3 (by omega), if_neg (by omega), seatF1, HP.out]); have d2' : w3.cell? ⟨wr.heap.size, 2, none⟩ = some (.int .i64 (j : Int)) := dm_c2 (RowAt.grown hN2 hg3 (by intro e; injection e; omega))) | (refine store_cell rfl 3 _ _ rfl rfl w.heap.size (j * 3 + 1) (.int .i64 (p + 1)) rfl rfl one_int rfl 58 (3 * l.length) _ hR3 (by omega) ?_; intro w4 hR4 hg4 hs4))
              have hN4 : DmAt w4 wr.heap.size ⟨q, t, (j : Int)⟩ := RowAt.grown (RowAt.grown hN2 hg3 (by intro e; injection e; omega)) hg4 (by intro e; injection e; omega)
              have hW4 : Below w.heap.size w w4 := (hWw2.grown hg3 (by omega) (by intro k hk; injection hk; omega)).grown hg4 (by omega) (by intro k hk; injection hk; omega)
              have hj3 : (j : Int) < (l.length : Int) := by omega
              clear hSt2 hR3 cp d2' ca d0 d2 hN2 hWw2 hg3 hg4
              refine held_begin (fun w' => w'.cell? ⟨wr.heap.size, 2, none⟩ = some (.int .i64 (j : Int)) ∧ w'.cell? ⟨wr.heap.size, 0, none⟩ = some (.int .i64 q)) (by kernel_rfl) ?_
              have hS : w4.drew.cell? ⟨wr.heap.size, 2, none⟩ = some (.int .i64 (j : Int)) ∧ w4.drew.cell? ⟨wr.heap.size, 0, none⟩ = some (.int .i64 q) := ⟨dm_c2 hN4, dm_c0 hN4⟩
              refine held_val 0 (some 41) rfl rfl (by kernel_rfl) (by kernel_rfl) (by kernel_rfl) noPanic_put rfl (.slice (some ⟨w.heap.size, 0, none⟩) l.length l.length) (fun _ => rfl) hS ?_
              simp only [Act.put, List.setIfInBounds_toArray, List.set_cons_zero, List.set_cons_succ]
              refine held_val 1 (some 42) rfl rfl (by kernel_rfl) (by kernel_rfl) (by kernel_rfl) noPanic_put rfl (.pointer (some ⟨wr.heap.size, 2, none⟩)) (fun _ => by go_simp) hS ?_
              simp only [Act.put, List.setIfInBounds_toArray, List.set_cons_zero, List.set_cons_succ]
              refine held_valS 2 (some 43) rfl rfl (by kernel_rfl) (by kernel_rfl) (by kernel_rfl) noPanic_put rfl (.int .i64 (j : Int)) (fun _ hw' => by have h1 := hw'.1; go_simp) hS ?_
              simp only [Act.put, List.setIfInBounds_toArray, List.set_cons_zero, List.set_cons_succ]
              refine held_val 3 (some 44) rfl rfl (by kernel_rfl) (by kernel_rfl) (by kernel_rfl) noPanic_put rfl (.pointer (some ⟨wr.heap.size, 0, none⟩)) (fun _ => by go_simp) hS ?_
              simp only [Act.put, List.setIfInBounds_toArray, List.set_cons_zero, List.set_cons_succ]
              refine held_valS 4 (some 45) rfl rfl (by kernel_rfl) (by kernel_rfl) (by kernel_rfl) noPanic_put rfl (.int .i64 q) (fun _ hw' => by have h1 := hw'.2; go_simp) hS ?_
              simp only [Act.put, List.setIfInBounds_toArray, List.set_cons_zero, List.set_cons_succ]
              refine held_call 5 (some 46) (by kernel_rfl) rfl rfl rfl 34 #[.int .i64 q] (by go_simp) _ (isList_any q w4.drew) ?_
              rintro e w4' ⟨rfl, rfl⟩
              refine ⟨_, rfl, hS, ?_⟩
              simp only [Act.put, List.setIfInBounds_toArray, List.set_cons_zero, List.set_cons_succ]
              refine held_val 6 (some 47) rfl rfl (by kernel_rfl) (by kernel_rfl) (by kernel_rfl) noPanic_put rfl (.pointer (some ⟨w.heap.size, j * 3, none⟩)) (fun _ => by go_simp) hS ?_
              simp only [Act.put, List.setIfInBounds_toArray, List.set_cons_zero, List.set_cons_succ]
              refine held_val 7 (some 48) rfl rfl (by kernel_rfl) (by kernel_rfl) (by kernel_rfl) noPanic_put rfl (.pointer (some ⟨w.heap.size, j * 3 + 2, none⟩)) (fun _ => by go_simp) hS ?_
              simp only [Act.put, List.setIfInBounds_toArray, List.set_cons_zero, List.set_cons_succ]
              refine held_store_cell 8 (by kernel_rfl) rfl rfl 4 _ _ rfl rfl w.heap.size (j * 3 + 2) (.bool (isL q)) rfl rfl one_bool rfl 58 (3 * l.length) _ (World.rowIs.drew hR4) (by omega) ?_
              intro w5 hR5 hg5 hs5
              have hN5 : DmAt w5 wr.heap.size ⟨q, t, (j : Int)⟩ := RowAt.grown (show DmAt w4.drew wr.heap.size ⟨q, t, (j : Int)⟩ from hN4) hg5 (by intro e; injection e; omega)
              have hW5 : Below w.heap.size w w5 := (Below.drew hW4).grown hg5 (by have := hW4.size; exact this) (by intro k hk; injection hk; omega)
              refine ⟨⟨dm_c2 hN5, dm_c0 hN5⟩, ?_⟩
              refine wpAnyH_done (by kernel_rfl) ?_ _
              refine NoPanic.normal ?_
              have hSt5 : SeatAt w5 w.heap.size l (k + 1) := seat_some HU.out HY.out.symm hjk HJL.out (by have h := hR5; rw [HQ.out, HP.out, HR.out] at h; exact h)
              have d0 : w5.cell? ⟨wr.heap.size, 0, none⟩ = some (.int .i64 q) := dm_c0 hN5
              have hak : arnd l k ≤ 25 := by
                rw [arnd_some HU.out HY.out.symm hjk HJL.out]
                have h1 := (HK.out j hjk).2.2
                rw [deep_of HJL.out] at h1
                have := of_decide_eq_true h1
                omega
              clear hR4 hR5 hS hg5 hN4 hN5 hW4
              obtain ⟨z, hz'⟩ : ∃ z : Int, z = (arnd l k : Int) := ⟨_, rfl⟩
              have cz := seat_a hSt5 hk' z (by rw [if_pos (by omega)]; exact hz')
              have HZ := hideT' hz'
              have HAK := hideT' hak
              clear hz' hak
              go_wp2_with fail
              refine (isList_any _ _).mono ?_
              rintro e w6 ⟨rfl, rfl⟩
              cases hil : isL q with
              | false =>
                have HOK2 : Hid (OkTo l (k + 1)) := HK.out.succ HOK.out HTO.out (deep_ofn (by rw [← HQ.out]; exact hil) HAK.out)
                clear hil
                go_wp2
                go_roundg (l.length - (k + 1))
                case measure => omega
                case rel => exact ⟨k + 1, rfl, by omega, by go_num, HOK2, HU2, hSt5, hW5⟩
              | true =>
                have HDE := hideT' (deep_of (l := l) (k := k) (by rw [← HQ.out]; exact hil))
                clear hil
                by_cases h25 : 25 ≤ z
                · have HF := hideT' (NO.out (node_deepBad (by rw [HDE.out]; exact decide_eq_false (by have := HZ.out; omega))))
                  go_wp2
                  go_ret
                  exact ⟨by rw [HF.out]; rfl, hW5⟩
                · have HOK2 : Hid (OkTo l (k + 1)) := HK.out.succ HOK.out HTO.out (by rw [HDE.out]; exact decide_eq_true (by have := HZ.out; omega))
                  go_wp2
                  go_roundg (l.length - (k + 1))
                  case measure => omega
                  case rel => exact ⟨k + 1, rfl, by omega, by go_num, HOK2, HU2, hSt5, hW5⟩
            · go_wp2_with (first | (refine load_dm rfl _ rfl b k rfl l hDr hk' ⟨q, t, y⟩ HDM.out ?_) | (refine store_dv rfl _ _ rfl rfl wr.heap.size ⟨q, t, y⟩ rfl rfl default A ?_; intro w2 hN2 hg2 hs2; have hK2 := WK.out w2 hN2 hg2; have d0 := hK2.1; have d2 := hK2.2.1; have hSt2 := hK2.2.2.1; have hWw2 := hK2.2.2.2; have hs2' : w2.heap.size = wr.heap.size + 1 := (by rw [hs2]; simp); clear hK2 hg2 hs2))
              have hSt5 : SeatAt w2 w.heap.size l (k + 1) := seat_none hSt2 (by rw [← HY.out]; omega)
              have hak : arnd l k ≤ 25 := by rw [arnd_none (by rw [← HY.out]; omega)]; omega
              clear hSt2
              obtain ⟨z, hz'⟩ : ∃ z : Int, z = (arnd l k : Int) := ⟨_, rfl⟩
              have cz := seat_a hSt5 hk' z (by rw [if_pos (by omega)]; exact hz')
              have HZ := hideT' hz'
              have HAK := hideT' hak
              clear hz' hak
              refine (isList_any _ _).mono ?_
              rintro e w6 ⟨rfl, rfl⟩
              cases hil : isL q with
              | false =>
                have HOK2 : Hid (OkTo l (k + 1)) := HK.out.succ HOK.out HTO.out (deep_ofn (by rw [← HQ.out]; exact hil) HAK.out)
                clear hil
                go_wp2
                go_roundg (l.length - (k + 1))
                case measure => omega
                case rel => exact ⟨k + 1, rfl, by omega, by go_num, HOK2, HU2, hSt5, hWw2⟩
              | true =>
                have HDE := hideT' (deep_of (l := l) (k := k) (by rw [← HQ.out]; exact hil))
                clear hil
                by_cases h25 : 25 ≤ z
                · have HF := hideT' (NO.out (node_deepBad (by rw [HDE.out]; exact decide_eq_false (by have := HZ.out; omega))))
                  go_wp2
                  go_ret
                  exact ⟨by rw [HF.out]; rfl, hWw2⟩
                · have HOK2 : Hid (OkTo l (k + 1)) := HK.out.succ HOK.out HTO.out (by rw [HDE.out]; exact decide_eq_true (by have := HZ.out; omega))
                  go_wp2
                  go_roundg (l.length - (k + 1))
                  case measure => omega
                  case rel => exact ⟨k + 1, rfl, by omega, by go_num, HOK2, HU2, hSt5, hWw2⟩
      · have hkn : k = l.length := by omega
        subst hkn
        clear hk hlt hg
        have hsl : w.heap.size < wr.heap.size := World.rowIs.lt hSt
        go_wp2_with fail
        go_loopg [63] l.length (fun g i wq => ∃ k : Nat, g = l.length - k ∧ k ≤ l.length ∧ i = .int .i64 (k : Int) ∧ Hid (∀ j, j < k → nodeOk l j = true) ∧ SeatAt wq w.heap.size l l.length ∧ Below w.heap.size w wq)
        case atStart => exact ⟨0, rfl, by omega, rfl, fun j hj => by omega, hSt, hW⟩
        case round =>
          clear hSt hW hWs hsl
          obtain ⟨k, hg, hk, rfl, HN, hSt, hW⟩ := hrel
          have hWs := hW.size
          have hsl : w.heap.size < wr.heap.size := World.rowIs.lt hSt
          by_cases hlt : (k : Int) < (l.length : Int)
          · have hk' : k < l.length := by omega
            have hDr : DatAt wr b l := RowAt.below HD.out hW hb
            have A : DmAt (wr.alloc (.cells (dmC default) 37)) wr.heap.size default := RowAt.new wr _ _
            obtain ⟨q, t, y, hd, hq, ht, hy⟩ := dm_parts l k
            have HDM := hideT' hd
            have HQ := hideT' hq
            obtain ⟨p, hp⟩ : ∃ p : Int, p = ((prt l l.length k).length : Int) := ⟨_, rfl⟩
            obtain ⟨z, hz'⟩ : ∃ z : Bool, z = lastL l (prt l l.length k) := ⟨_, rfl⟩
            have HP := hideT' hp
            have HZ := hideT' hz'
            have HND : Hid (nodeOk l k = dotOk l k) := by
              obtain ⟨h1, h2, h3⟩ := HK.out k hk'
              unfold Hid nodeOk
              rw [h1, h2, h3]; rfl
            have NO : Hid (nodeOk l k = false → goodAll l = false) := fun h => node_bad hk' h
            have GO : Hid (nodeOk l k = true → ∀ j, j < k + 1 → nodeOk l j = true) := fun h j hj => by
              by_cases e : j = k
              · subst e; exact h
              · exact HN.out j (by omega)
            clear hd hq ht hy hp hz'
            have WALK : ∀ (w1 : World), DmAt w1 wr.heap.size ⟨q, t, y⟩ → (wr.alloc (.cells (dmC default) 37)).grownBy w1 (some wr.heap.size) → w1.cell? ⟨wr.heap.size, 0, none⟩ = some (.int .i64 q) ∧ w1.cell? ⟨w.heap.size, k * 3 + 1, none⟩ = some (.int .i64 p) ∧ w1.cell? ⟨w.heap.size, k * 3 + 2, none⟩ = some (.bool z) ∧ SeatAt w1 w.heap.size l l.length ∧ Below w.heap.size w w1 := fun w1 hN1 hg1 => by
              have hSt1 : SeatAt w1 w.heap.size l l.length := SeatAt.grown (World.rowIs.alloc hSt _) hg1 (by intro e; injection e; omega)
              exact ⟨dm_c0 hN1, seat_p hSt1 hk' p HP.out, seat_e hSt1 hk' z HZ.out, hSt1, (hW.alloc hWs _).grown hg1 (by simp; omega) (by intro k hk; injection hk; omega)⟩
            have WK := hideT' WALK
            clear WALK
            by_cases h6 : q = 6
            · have h6' : (q == 6) = true := by rw [h6]; rfl
              have HDT : Hid (nodeOk l k = (decide (2 ≤ (prt l l.length k).length) && !lastL l (prt l l.length k))) := by
                unfold Hid; rw [HND.out]; unfold dotOk; rw [← HQ.out, decide_eq_true h6]; rfl
              clear h6
              by_cases hp2 : p < 2
              · have HF := hideT' (NO.out (by rw [HDT.out, decide_eq_false (by have := HP.out; omega)]; rfl))
                go_wp2_with (first | (refine load_dm rfl _ rfl b k rfl l hDr hk' ⟨q, t, y⟩ HDM.out ?_) | (refine store_dv rfl _ _ rfl rfl wr.heap.size ⟨q, t, y⟩ rfl rfl default A ?_; intro w1 hN1 hg1 hs1; have hK1 := WK.out w1 hN1 hg1; have k0 := hK1.1; have k1 := hK1.2.1; have k2 := hK1.2.2.1))
                go_ret
                exact ⟨by rw [HF.out]; rfl, hK1.2.2.2.2⟩
              · cases z with
                | true =>
                  have HF := hideT' (NO.out (by rw [HDT.out, ← HZ.out]; simp))
                  go_wp2_with (first | (refine load_dm rfl _ rfl b k rfl l hDr hk' ⟨q, t, y⟩ HDM.out ?_) | (refine store_dv rfl _ _ rfl rfl wr.heap.size ⟨q, t, y⟩ rfl rfl default A ?_; intro w1 hN1 hg1 hs1; have hK1 := WK.out w1 hN1 hg1; have k0 := hK1.1; have k1 := hK1.2.1; have k2 := hK1.2.2.1))
                  go_ret
                  exact ⟨by rw [HF.out]; rfl, hK1.2.2.2.2⟩
                | false =>
                  have HK2 := hideT' (GO.out (by rw [HDT.out, ← HZ.out, decide_eq_true (by have := HP.out; omega)]; rfl))
                  go_wp2_with (first | (refine load_dm rfl _ rfl b k rfl l hDr hk' ⟨q, t, y⟩ HDM.out ?_) | (refine store_dv rfl _ _ rfl rfl wr.heap.size ⟨q, t, y⟩ rfl rfl default A ?_; intro w1 hN1 hg1 hs1; have hK1 := WK.out w1 hN1 hg1; have k0 := hK1.1; have k1 := hK1.2.1; have k2 := hK1.2.2.1))
                  go_roundg (l.length - (k + 1))
                  case measure => omega
                  case rel => exact ⟨k + 1, rfl, by omega, by go_num, HK2, hK1.2.2.2.1, hK1.2.2.2.2⟩
            · have h6' : (q == 6) = false := beq_eq_false_iff_ne.2 h6
              have HK2 := hideT' (GO.out (by rw [HND.out]; unfold dotOk; rw [← HQ.out, decide_eq_false h6]; rfl))
              clear h6
              go_wp2_with (first | (refine load_dm rfl _ rfl b k rfl l hDr hk' ⟨q, t, y⟩ HDM.out ?_) | (refine store_dv rfl _ _ rfl rfl wr.heap.size ⟨q, t, y⟩ rfl rfl default A ?_; intro w1 hN1 hg1 hs1; have hK1 := WK.out w1 hN1 hg1; have k0 := hK1.1; have k1 := hK1.2.1; have k2 := hK1.2.2.1))
              go_roundg (l.length - (k + 1))
              case measure => omega
              case rel => exact ⟨k + 1, rfl, by omega, by go_num, HK2, hK1.2.2.2.1, hK1.2.2.2.2⟩
          · have HG := hideT' (node_all hn3 (fun j hj => HN.out j (by omega)))
            go_wp2
            go_ret
            exact ⟨by rw [HG.out]; rfl, hW⟩

set_option maxHeartbeats 4000000 in
set_option maxRecDepth 100000 in
theorem implGoodData_any (b : Nat) (l : List Dm) (w : World) (hs : ∀ i, i < l.length → (dt l i).size ≤ maxLen) (hD : DatAt w b l) (hT : Tab w.heap.size w) :
    Calls Tryz.prog 9 #[slV b l] w fun e w' => e = .returned (.bool (goodAll l)) ∧ Below w.heap.size w w' := by
  have hz := zero_dm.1
  have HD := hideT' hD
  have HS := hideT' hs
  have HT := hideT' hT
  have hb := RowAt.lt hD
  clear hD hs hT
  by_cases hn : (300 : Int) < (l.length : Int)
  · have HN : Hid (goodAll l = false) := by unfold Hid goodAll; rw [decide_eq_false (by omega)]; rfl
    go_enter Tryz.func9, Tryz.ntmps9
    go_wp2
    go_ret
    exact ⟨by rw [HN.out]; rfl, Below.refl _ _⟩
  · have hn3 : l.length ≤ 300 := by omega
    go_enter Tryz.func9, Tryz.ntmps9
    go_wp2_with fail
    go_loopg [10] l.length (fun g i wr => ∃ k : Nat, g = l.length - k ∧ k ≤ l.length ∧ i = .int .i64 (k : Int) ∧ Hid (∀ j, j < k → upOk l j = true ∧ txtOk (dk l j) (dt l j).data.toList = true) ∧ Hid (Up l k) ∧ Below w.heap.size w wr)
    case atStart => exact ⟨0, rfl, by omega, rfl, fun j hj => by omega, fun j hj => by omega, Below.refl _ _⟩
    case round =>
      obtain ⟨k, hg, hk, rfl, HK, HU, hW⟩ := hrel
      have hWs := hW.size
      by_cases hlt : (k : Int) < (l.length : Int)
      · have hk' : k < l.length := by omega
        have hDr : DatAt wr b l := RowAt.below HD.out hW hb
        have A : DmAt (wr.alloc (.cells (dmC default) 37)) wr.heap.size default := RowAt.new wr _ _
        obtain ⟨q, t, y, hd, hq, ht, hy⟩ := dm_parts l k
        have HDM := hideT' hd
        have HQ := hideT' hq
        have HTX := hideT' ht
        have HY := hideT' hy
        have hts : t.size ≤ maxLen := by rw [ht]; exact HS.out k hk'
        clear hd hq ht hy
        go_wp2_with (first | (refine load_dm rfl _ rfl b k rfl l hDr hk' ⟨q, t, y⟩ HDM.out ?_) | (refine store_dv rfl _ _ rfl rfl wr.heap.size ⟨q, t, y⟩ rfl rfl default A ?_; intro w1 hN1 hg1 hs1; have c0 : w1.cell? ⟨wr.heap.size, 0, none⟩ = some (.int .i64 q) := dm_c0 hN1; have c1 : w1.cell? ⟨wr.heap.size, 1, none⟩ = some (.string t) := dm_c1 hN1; have c2 : w1.cell? ⟨wr.heap.size, 2, none⟩ = some (.int .i64 y) := dm_c2 hN1))
        have hW1 : Below w.heap.size w w1 := (hW.alloc hWs _).grown hg1 (by simp; omega) (by intro k hk; cases hk; omega)
        have hD1 : DatAt w1 b l := RowAt.below HD.out hW1 hb
        have hs1' : w1.heap.size = wr.heap.size + 1 := by rw [hs1]; simp
        have HT1 : Hid (Tab w1.heap.size w1) := (HT.out.on hW1).up hW1.size
        clear A hg1 hs1 hDr hW
        have NO : Hid (nodeOk l k = false → goodAll l = false) := fun h => node_bad hk' h
        refine (goodUp_any b l k _ _ rfl hk' hn3 hD1 HU.out).mono ?_
        rintro e w' ⟨rfl, rfl⟩
        cases hu : upOk l k with
        | false =>
          have HF := hideT' (NO.out (node_upBad hu))
          clear hu
          go_wp2
          go_ret
          exact ⟨by rw [HF.out]; rfl, hW1⟩
        | true =>
          have HOK := hideT' hu
          have HU2 : Hid (Up l (k + 1)) := HU.out.succ hu
          clear hu
          go_wp2_with fail
          refine (goodText_any ⟨q, t, y⟩ _ hts HT1.out).mono ?_
          rintro e w2 ⟨rfl, hW2⟩
          have hWw2 : Below w.heap.size w w2 := hW1.trans (hW2.mono hW1.size)
          clear hN1 hD1 HT1 c0 c1 c2 hW2
          cases htx : txtOk q t.data.toList with
          | false =>
            have HF := hideT' (NO.out (node_txtBad (by rw [← HQ.out, ← HTX.out]; exact htx)))
            clear htx
            go_wp2
            go_ret
            exact ⟨by rw [HF.out]; rfl, hWw2⟩
          | true =>
            have HTO : Hid (txtOk (dk l k) (dt l k).data.toList = true) := by unfold Hid; rw [← HQ.out, ← HTX.out]; exact htx
            have HK2 : Hid (∀ j, j < k + 1 → upOk l j = true ∧ txtOk (dk l j) (dt l j).data.toList = true) := fun j hj => by
              by_cases e : j = k
              · subst e; exact ⟨HOK.out, HTO.out⟩
              · exact HK.out j (by omega)
            clear htx
            go_wp2
            go_roundg (l.length - (k + 1))
            case measure => omega
            case rel => exact ⟨k + 1, rfl, by omega, by go_num, HK2, HU2, hWw2⟩
      · have HAll : Hid (∀ j, j < l.length → upOk l j = true ∧ txtOk (dk l j) (dt l j).data.toList = true) := fun j hj => HK.out j (by omega)
        have hDr : DatAt wr b l := RowAt.below HD.out hW hb
        go_wp2_with fail
        refine (goodLists_any b l _ hn3 HAll.out hDr).mono ?_
        rintro e w2 ⟨rfl, hW2⟩
        obtain ⟨o, ho⟩ : ∃ o, o = goodAll l := ⟨_, rfl⟩
        rw [← ho]
        have HO := hideT' ho
        clear ho
        go_wp2
        go_ret
        exact ⟨by rw [← HO.out]; rfl, hW.trans (hW2.mono hWs)⟩
end Go.Proofs.YtmpghgaijphniaaGreatDoor

/-
  Whether data are the same.
-/
namespace Go.Proofs.YtmpghgaijphniaaGreatDoor
open Go.RowKit
set_option linter.unusedVariables false

def dmEq (d e : Dm) : Bool := ((d.k == e.k) && (d.t.toList == e.t.toList)) && (d.u == e.u)
def sameD (l m : List Dm) : Bool := decide (l.length = m.length) && (List.range l.length).all (fun i => dmEq (l.getD i default) (m.getD i default))
theorem sameD_len {l m : List Dm} (h : l.length ≠ m.length) : sameD l m = false := by unfold sameD; rw [decide_eq_false h]; rfl
theorem sameD_no {l m : List Dm} {k : Nat} (hk : k < l.length) (h : dmEq (l.getD k default) (m.getD k default) = false) : sameD l m = false := by
  unfold sameD
  have : (List.range l.length).all (fun i => dmEq (l.getD i default) (m.getD i default)) = false := by
    rw [List.all_eq_false]
    exact ⟨k, List.mem_range.2 hk, by rw [h]; decide⟩
  rw [this, Bool.and_false]
theorem sameD_yes {l m : List Dm} (hlm : l.length = m.length) (h : ∀ k, k < l.length → dmEq (l.getD k default) (m.getD k default) = true) : sameD l m = true := by
  unfold sameD
  rw [decide_eq_true hlm, Bool.true_and, List.all_eq_true]
  intro k hk
  exact h k (List.mem_range.1 hk)

set_option maxRecDepth 100000 in
theorem neq_dm (d e : Dm) (w : World) : (binOp .neq 37 (.agg (dmC d)) (.agg (dmC e))).run Tryz.prog w = .ok (.bool (!dmEq d e)) w := by
  obtain ⟨k, t, u⟩ := d
  obtain ⟨k', t', u'⟩ := e
  show (binOp .neq 37 (.agg #[.int .i64 k, .string t, .int .i64 u]) (.agg #[.int .i64 k', .string t', .int .i64 u'])).run Tryz.prog w = .ok (.bool (!(((k == k') && (t.toList == t'.toList)) && (u == u')))) w
  go_simp
  by_cases h1 : k = k' <;> by_cases h2 : t.toList = t'.toList <;> by_cases h3 : u = u' <;> simp [h1, h2, h3]
set_option maxRecDepth 100000 in
theorem run_neq {o : Oper} {a : Act} {w : World} (x y : Operand) (ho : o.op = .binOp .neq 37 x y 37) (d e : Dm) (hx : a.eval x = .agg (dmC d)) (hy : a.eval y = .agg (dmC e)) :
    (execOp a.eval o).run Tryz.prog w = .ok (.value (.bool (!dmEq d e))) w := by
  unfold execOp
  have hg := fun w => run_eqGuard_agg (P := Tryz.prog) w .neq 37 x y (dmC d) (dmC e) (by kernel_rfl)
  simp only [ho, hx, hy, Sem.run_bind, hg, neq_dm, Result.andThen_ok]
  rfl

set_option maxHeartbeats 1000000 in
set_option maxRecDepth 100000 in
theorem equal_any (b c : Nat) (l m : List Dm) (w : World) (hl : l.length ≤ maxLen) (h1 : DatAt w b l) (h2 : DatAt w c m) :
    Calls Tryz.prog 30 #[slV b l, slV c m] w fun e w' => e = .returned (.bool (sameD l m)) ∧ Below w.heap.size w w' := by
  unfold maxLen at hl
  have H1 := hideT' h1
  have H2 := hideT' h2
  have hb := RowAt.lt h1
  have hc := RowAt.lt h2
  clear h1 h2
  by_cases hlm : l.length = m.length
  · have hle : ((l.length : Int) == (m.length : Int)) = true := by rw [hlm]; exact beq_self_eq_true _
    have hle' : ((l.length : Int) != (m.length : Int)) = false := by rw [hlm]; simp
    have HLM := hideT' hlm
    go_enter Tryz.func30, Tryz.ntmps30
    clear hlm
    go_wp2_with fail
    have hlm := HLM.out
    go_loopg [13] l.length (fun g i wr => ∃ k : Nat, g = l.length - k ∧ k ≤ l.length ∧ i = .int .i64 (k : Int) ∧ Hid (∀ j, j < k → dmEq (l.getD j default) (m.getD j default) = true) ∧ Below w.heap.size w wr)
    case atStart => exact ⟨0, rfl, by omega, rfl, fun j hj => by omega, Below.refl _ _⟩
    case round =>
      obtain ⟨k, hg, hk, rfl, HK, hW⟩ := hrel
      by_cases hlt : (k : Int) < (l.length : Int)
      · have hk' : k < l.length := by omega
        have hkm : k < m.length := by omega
        obtain ⟨d, hd⟩ : ∃ d, d = l.getD k default := ⟨_, rfl⟩
        obtain ⟨d', hd'⟩ : ∃ d', d' = m.getD k default := ⟨_, rfl⟩
        have HD1 := hideT' hd.symm
        have HD2 := hideT' hd'.symm
        have hS : DatAt wr.drew b l ∧ DatAt wr.drew c m := ⟨RowAt.below H1.out (Below.drew hW) hb, RowAt.below H2.out (Below.drew hW) hc⟩
        have hkm' : (k : Int) < (m.length : Int) := by omega
        clear hd hd'
        go_wp2_with fail
        refine held_begin (fun w' => DatAt w' b l ∧ DatAt w' c m) (by kernel_rfl) ?_
        refine held_val 0 (some 16) rfl rfl (by kernel_rfl) (by kernel_rfl) (by kernel_rfl) noPanic_put rfl (slV b l) (fun _ => rfl) hS ?_
        simp only [Act.put, List.setIfInBounds_toArray, List.set_cons_zero, List.set_cons_succ]
        refine held_val 1 (some 17) rfl rfl (by kernel_rfl) (by kernel_rfl) (by kernel_rfl) noPanic_put rfl (.int .i64 (k : Int)) (fun _ => rfl) hS ?_
        simp only [Act.put, List.setIfInBounds_toArray, List.set_cons_zero, List.set_cons_succ]
        refine held_val 2 (some 18) rfl rfl (by kernel_rfl) (by kernel_rfl) (by kernel_rfl) noPanic_put rfl (.pointer (some ⟨b, k * 3, none⟩)) (fun _ => by go_simp) hS ?_
        simp only [Act.put, List.setIfInBounds_toArray, List.set_cons_zero, List.set_cons_succ]
        refine held_valS 3 (some 19) rfl rfl (by kernel_rfl) (by kernel_rfl) (by kernel_rfl) noPanic_put rfl (.agg (dmC d)) (fun _ hw' => run_dm _ rfl b k rfl l hw'.1 hk' d HD1.out) hS ?_
        simp only [Act.put, List.setIfInBounds_toArray, List.set_cons_zero, List.set_cons_succ]
        refine held_val 4 (some 20) rfl rfl (by kernel_rfl) (by kernel_rfl) (by kernel_rfl) noPanic_put rfl (slV c m) (fun _ => rfl) hS ?_
        simp only [Act.put, List.setIfInBounds_toArray, List.set_cons_zero, List.set_cons_succ]
        refine held_val 5 (some 21) rfl rfl (by kernel_rfl) (by kernel_rfl) (by kernel_rfl) noPanic_put rfl (.int .i64 (k : Int)) (fun _ => rfl) hS ?_
        simp only [Act.put, List.setIfInBounds_toArray, List.set_cons_zero, List.set_cons_succ]
        refine held_val 6 (some 22) rfl rfl (by kernel_rfl) (by kernel_rfl) (by kernel_rfl) noPanic_put rfl (.pointer (some ⟨c, k * 3, none⟩)) (fun _ => by go_simp) hS ?_
        simp only [Act.put, List.setIfInBounds_toArray, List.set_cons_zero, List.set_cons_succ]
        refine held_valS 7 (some 23) rfl rfl (by kernel_rfl) (by kernel_rfl) (by kernel_rfl) noPanic_put rfl (.agg (dmC d')) (fun _ hw' => run_dm _ rfl c k rfl m hw'.2 hkm d' HD2.out) hS ?_
        simp only [Act.put, List.setIfInBounds_toArray, List.set_cons_zero, List.set_cons_succ]
        refine held_val 8 (some 24) rfl rfl (by kernel_rfl) (by kernel_rfl) (by kernel_rfl) noPanic_put rfl (.bool (!dmEq d d')) (fun _ => run_neq _ _ rfl d d' rfl rfl) hS ?_
        simp only [Act.put, List.setIfInBounds_toArray, List.set_cons_zero, List.set_cons_succ]
        refine wpAnyH_done (by kernel_rfl) ?_ _
        refine NoPanic.normal ?_
        cases he : dmEq d d' with
        | true =>
          have HK2 : Hid (∀ j, j < k + 1 → dmEq (l.getD j default) (m.getD j default) = true) := fun j hj => by
            by_cases e : j = k
            · subst e; rw [HD1.out, HD2.out]; exact he
            · exact HK.out j (by omega)
          clear he
          go_wp2
          go_roundg (l.length - (k + 1))
          case measure => omega
          case rel => exact ⟨k + 1, rfl, by omega, by go_num, HK2, Below.drew hW⟩
        | false =>
          have HN : Hid (sameD l m = false) := sameD_no hk' (by rw [HD1.out, HD2.out]; exact he)
          clear he
          go_wp2
          go_ret
          exact ⟨by rw [HN.out]; rfl, Below.drew hW⟩
      · have HY : Hid (sameD l m = true) := sameD_yes hlm (fun j hj => HK.out j (by omega))
        go_wp2
        go_ret
        exact ⟨by rw [HY.out]; rfl, hW⟩
  · have hle : ((l.length : Int) == (m.length : Int)) = false := beq_eq_false_iff_ne.2 (by omega)
    have HN := hideT' (sameD_len hlm)
    clear hlm
    go_enter Tryz.func30, Tryz.ntmps30
    go_wp2
    go_ret
    exact ⟨by rw [HN.out]; rfl, Below.refl _ _⟩

/-- What SameData should answer. -/
def sameV (l m : List Dm) : Value := .tuple #[.bool ((goodAll l && goodAll m) && sameD l m), .bool (goodAll l && goodAll m)]

set_option maxHeartbeats 2000000 in
set_option maxRecDepth 100000 in
theorem implSameData_any (b c : Nat) (l m : List Dm) (w : World) (hl : l.length ≤ maxLen) (hsl : ∀ i, i < l.length → (dt l i).size ≤ maxLen) (hsm : ∀ i, i < m.length → (dt m i).size ≤ maxLen) (h1 : DatAt w b l) (h2 : DatAt w c m) (hT : Tab w.heap.size w) :
    Calls Tryz.prog 14 #[slV b l, slV c m] w fun e w' => e = .returned (sameV l m) ∧ Below w.heap.size w w' := by
  have hb := RowAt.lt h1
  have hc := RowAt.lt h2
  have HT := hideT' hT
  have HSL := hideT' hsl
  have HSM := hideT' hsm
  clear hT hsl hsm
  go_enter Tryz.func14, Tryz.ntmps14
  go_wp2_with fail
  refine (implGoodData_any b l w HSL.out h1 HT.out).mono ?_
  rintro e w1 ⟨rfl, hW1⟩
  have h1' : DatAt w1 b l := RowAt.below h1 hW1 hb
  have h2' : DatAt w1 c m := RowAt.below h2 hW1 hc
  have HT1 : Hid (Tab w1.heap.size w1) := (HT.out.on hW1).up hW1.size
  have hb1 := RowAt.lt h1'
  have hc1 := RowAt.lt h2'
  cases g1 : goodAll l with
  | false =>
    have HN : Hid (sameV l m = .tuple #[.bool false, .bool false]) := by unfold Hid sameV; rw [g1]; rfl
    clear g1
    go_wp2
    go_ret2
    exact ⟨by rw [HN.out]; rfl, hW1⟩
  | true =>
    go_wp2_with fail
    refine (implGoodData_any c m w1 HSM.out h2' HT1.out).mono ?_
    rintro e w2 ⟨rfl, hW2⟩
    have hB2 := hW1.trans (hW2.mono hW1.size)
    cases g2 : goodAll m with
    | false =>
      have HN : Hid (sameV l m = .tuple #[.bool false, .bool false]) := by unfold Hid sameV; rw [g1, g2]; rfl
      clear g1 g2
      go_wp2
      go_ret2
      exact ⟨by rw [HN.out]; rfl, hB2⟩
    | true =>
      have HN : Hid (sameV l m = .tuple #[.bool (sameD l m), .bool true]) := by unfold Hid sameV; rw [g1, g2]; rfl
      clear g1 g2
      go_wp2_with fail
      refine (equal_any b c l m w2 hl (RowAt.below h1' hW2 hb1) (RowAt.below h2' hW2 hc1)).mono ?_
      rintro e w3 ⟨rfl, hW3⟩
      obtain ⟨o, ho⟩ : ∃ o, o = sameD l m := ⟨_, rfl⟩
      rw [← ho] at HN ⊢
      clear ho
      go_wp2
      go_ret2
      exact ⟨by rw [HN.out]; rfl, hB2.trans (hW3.mono hB2.size)⟩

set_option maxHeartbeats 2000000 in
set_option maxRecDepth 100000 in
theorem specSameData_any (b c : Nat) (l m : List Dm) (w0 : World) (hl : l.length ≤ maxLen) (hsl : ∀ i, i < l.length → (dt l i).size ≤ maxLen) (hsm : ∀ i, i < m.length → (dt m i).size ≤ maxLen) (h1 : DatAt w0 b l) (h2 : DatAt w0 c m) :
    Calls Tryz.prog 13 #[slV b l, slV c m] w0 fun e w' => e = .returned (sameV l m) ∧ Below w0.heap.size w0 w' := by
  unfold maxLen at hl
  have hb := RowAt.lt h1
  have hc := RowAt.lt h2
  have HSL := hideT' hsl
  have HSM := hideT' hsm
  clear hsl hsm
  go_enter Tryz.func13, Tryz.ntmps13
  go_wp2_with fail
  refine (specGoodData_any b l w0 HSL.out h1).mono ?_
  rintro e w1 ⟨rfl, hW1⟩
  have h1' : DatAt w1 b l := RowAt.below h1 hW1 hb
  have h2' : DatAt w1 c m := RowAt.below h2 hW1 hc
  have hb1 := RowAt.lt h1'
  have hc1 := RowAt.lt h2'
  cases g1 : goodAll l with
  | false =>
    have HN : Hid (sameV l m = .tuple #[.bool false, .bool false]) := by unfold Hid sameV; rw [g1]; rfl
    clear g1
    go_wp2
    go_ret2
    exact ⟨by rw [HN.out]; rfl, hW1⟩
  | true =>
    go_wp2_with fail
    refine (specGoodData_any c m w1 HSM.out h2').mono ?_
    rintro e w ⟨rfl, hW2⟩
    have hB2 := hW1.trans (hW2.mono hW1.size)
    cases g2 : goodAll m with
    | false =>
      have HN : Hid (sameV l m = .tuple #[.bool false, .bool false]) := by unfold Hid sameV; rw [g1, g2]; rfl
      clear g1 g2
      go_wp2
      go_ret2
      exact ⟨by rw [HN.out]; rfl, hB2⟩
    | true =>
      have HN0 : Hid (sameV l m = .tuple #[.bool (sameD l m), .bool true]) := by unfold Hid sameV; rw [g1, g2]; rfl
      have H1 : Hid (DatAt w b l) := RowAt.below h1' hW2 hb1
      have H2 : Hid (DatAt w c m) := RowAt.below h2' hW2 hc1
      clear g1 g2 h1 h2 h1' h2' hb hc
      have hb := RowAt.lt H1.out
      have hc := RowAt.lt H2.out
      by_cases hlm : l.length = m.length
      · have hle : ((l.length : Int) == (m.length : Int)) = true := by rw [hlm]; exact beq_self_eq_true _
        have HLM := hideT' hlm
        clear hlm
        go_wp2_with fail
        have hlm := HLM.out
        go_loopg [22] l.length (fun g i wr => ∃ k : Nat, g = l.length - k ∧ k ≤ l.length ∧ i = .int .i64 (k : Int) ∧ Hid (∀ j, j < k → dmEq (l.getD j default) (m.getD j default) = true) ∧ Below w.heap.size w wr)
        case atStart => exact ⟨0, rfl, by omega, rfl, fun j hj => by omega, Below.refl _ _⟩
        case round =>
          obtain ⟨k, hg, hk, rfl, HK, hW⟩ := hrel
          by_cases hlt : (k : Int) < (l.length : Int)
          · have hk' : k < l.length := by omega
            have hkm : k < m.length := by omega
            obtain ⟨d, hd⟩ : ∃ d, d = l.getD k default := ⟨_, rfl⟩
            obtain ⟨d', hd'⟩ : ∃ d', d' = m.getD k default := ⟨_, rfl⟩
            have HD1 := hideT' hd.symm
            have HD2 := hideT' hd'.symm
            have hS : DatAt wr.drew b l ∧ DatAt wr.drew c m := ⟨RowAt.below H1.out (Below.drew hW) hb, RowAt.below H2.out (Below.drew hW) hc⟩
            have hkm' : (k : Int) < (m.length : Int) := by omega
            clear hd hd'
            go_wp2_with fail
            refine held_begin (fun w' => DatAt w' b l ∧ DatAt w' c m) (by kernel_rfl) ?_
            refine held_val 0 (some 25) rfl rfl (by kernel_rfl) (by kernel_rfl) (by kernel_rfl) noPanic_put rfl (slV b l) (fun _ => rfl) hS ?_
            simp only [Act.put, List.setIfInBounds_toArray, List.set_cons_zero, List.set_cons_succ]
            refine held_val 1 (some 26) rfl rfl (by kernel_rfl) (by kernel_rfl) (by kernel_rfl) noPanic_put rfl (.int .i64 (k : Int)) (fun _ => rfl) hS ?_
            simp only [Act.put, List.setIfInBounds_toArray, List.set_cons_zero, List.set_cons_succ]
            refine held_val 2 (some 27) rfl rfl (by kernel_rfl) (by kernel_rfl) (by kernel_rfl) noPanic_put rfl (.pointer (some ⟨b, k * 3, none⟩)) (fun _ => by go_simp) hS ?_
            simp only [Act.put, List.setIfInBounds_toArray, List.set_cons_zero, List.set_cons_succ]
            refine held_valS 3 (some 28) rfl rfl (by kernel_rfl) (by kernel_rfl) (by kernel_rfl) noPanic_put rfl (.agg (dmC d)) (fun _ hw' => run_dm _ rfl b k rfl l hw'.1 hk' d HD1.out) hS ?_
            simp only [Act.put, List.setIfInBounds_toArray, List.set_cons_zero, List.set_cons_succ]
            refine held_val 4 (some 29) rfl rfl (by kernel_rfl) (by kernel_rfl) (by kernel_rfl) noPanic_put rfl (slV c m) (fun _ => rfl) hS ?_
            simp only [Act.put, List.setIfInBounds_toArray, List.set_cons_zero, List.set_cons_succ]
            refine held_val 5 (some 30) rfl rfl (by kernel_rfl) (by kernel_rfl) (by kernel_rfl) noPanic_put rfl (.int .i64 (k : Int)) (fun _ => rfl) hS ?_
            simp only [Act.put, List.setIfInBounds_toArray, List.set_cons_zero, List.set_cons_succ]
            refine held_val 6 (some 31) rfl rfl (by kernel_rfl) (by kernel_rfl) (by kernel_rfl) noPanic_put rfl (.pointer (some ⟨c, k * 3, none⟩)) (fun _ => by go_simp) hS ?_
            simp only [Act.put, List.setIfInBounds_toArray, List.set_cons_zero, List.set_cons_succ]
            refine held_valS 7 (some 32) rfl rfl (by kernel_rfl) (by kernel_rfl) (by kernel_rfl) noPanic_put rfl (.agg (dmC d')) (fun _ hw' => run_dm _ rfl c k rfl m hw'.2 hkm d' HD2.out) hS ?_
            simp only [Act.put, List.setIfInBounds_toArray, List.set_cons_zero, List.set_cons_succ]
            refine held_val 8 (some 33) rfl rfl (by kernel_rfl) (by kernel_rfl) (by kernel_rfl) noPanic_put rfl (.bool (!dmEq d d')) (fun _ => run_neq _ _ rfl d d' rfl rfl) hS ?_
            simp only [Act.put, List.setIfInBounds_toArray, List.set_cons_zero, List.set_cons_succ]
            refine wpAnyH_done (by kernel_rfl) ?_ _
            refine NoPanic.normal ?_
            cases he : dmEq d d' with
            | true =>
              have HK2 : Hid (∀ j, j < k + 1 → dmEq (l.getD j default) (m.getD j default) = true) := fun j hj => by
                by_cases e : j = k
                · subst e; rw [HD1.out, HD2.out]; exact he
                · exact HK.out j (by omega)
              clear he
              go_wp2
              go_roundg (l.length - (k + 1))
              case measure => omega
              case rel => exact ⟨k + 1, rfl, by omega, by go_num, HK2, Below.drew hW⟩
            | false =>
              have HN : Hid (sameD l m = false) := sameD_no hk' (by rw [HD1.out, HD2.out]; exact he)
              clear he
              go_wp2
              go_ret2
              exact ⟨by rw [HN0.out, HN.out]; rfl, hB2.trans ((Below.drew hW).mono hB2.size)⟩
          · have HY : Hid (sameD l m = true) := sameD_yes hlm (fun j hj => HK.out j (by omega))
            go_wp2
            go_ret2
            exact ⟨by rw [HN0.out, HY.out]; rfl, hB2.trans (hW.mono hB2.size)⟩
      · have hle : ((l.length : Int) == (m.length : Int)) = false := beq_eq_false_iff_ne.2 (by omega)
        have HN := hideT' (sameD_len hlm)
        clear hlm
        go_wp2
        go_ret2
        exact ⟨by rw [HN0.out, HN.out]; rfl, hB2⟩
end Go.Proofs.YtmpghgaijphniaaGreatDoor

/-
  Data that came in as an argument: what its reading says of the cells.
-/
namespace Go.Proofs.YtmpghgaijphniaaGreatDoor
open Go.ChangeShapes Go.WideShapes Go.ChangeAt Go.RowKit
set_option linter.unusedVariables false

theorem laidOut : laidOutB Tryz.prog = true := by kernel_rfl
theorem cells_ldm : Tryz.prog.cellsOf 36 = 3 := by kernel_rfl
theorem cells_int : Tryz.prog.cellsOf 3 = 1 := by kernel_rfl
theorem cells_str : Tryz.prog.cellsOf 9 = 1 := by kernel_rfl

set_option maxRecDepth 100000 in
theorem open_node {H : Type} {enc : TypeId × Value → H} {W : World} {n : Nat} {cs : List Value} {x : DataW H × List MemPlace} (hl : cs.length = 3) (h : DataW.trod enc Tryz.prog W 0 (fun _ => true) true n 36 cs = some x) :
    ∃ d : Dm, cs = dmL d ∧ d.t.size ≤ maxLen := by
  obtain ⟨y0, y1, y2, m, _, _, h0, h1, h2⟩ := Deep.trod_struct3 Tryz.underlying36 h
  obtain ⟨a, b, c, rfl⟩ : ∃ a b c, cs = [a, b, c] := by
    cases cs with
    | nil => cases hl
    | cons a cs => cases cs with
      | nil => cases hl
      | cons b cs => cases cs with
        | nil => cases hl
        | cons c cs => cases cs with
          | nil => exact ⟨a, b, c, rfl⟩
          | cons _ _ => simp at hl
  · have g0 : DataW.trod enc Tryz.prog W 0 (fun _ => true) true m 3 (([a, b, c].drop 0).take (Tryz.prog.cellsOf 3)) = some y0 := h0
    have g1 : DataW.trod enc Tryz.prog W 0 (fun _ => true) true m 9 (([a, b, c].drop 1).take (Tryz.prog.cellsOf 9)) = some y1 := h1
    have g2 : DataW.trod enc Tryz.prog W 0 (fun _ => true) true m 3 (([a, b, c].drop 2).take (Tryz.prog.cellsOf 3)) = some y2 := h2
    rw [cells_int] at g0 g2
    rw [cells_str] at g1
    obtain ⟨k, e0, _, _⟩ := DataW.trod_int Tryz.underlying3 g0
    obtain ⟨t, e1, _, ht⟩ := DataW.trod_string Tryz.underlying9 g1
    obtain ⟨u, e2, _, _⟩ := DataW.trod_int Tryz.underlying3 g2
    simp at e0 e1 e2
    exact ⟨⟨k, t, u⟩, by rw [e0, e1, e2]; rfl, ht⟩

set_option maxRecDepth 100000 in
theorem open_data {H : Type} {enc : TypeId × Value → H} {W : World} {base : Nat} {v : Value} {d : DataW H} {ps : List MemPlace} (hval : Value.okWide Tryz.prog W .any base 22 v) (h : DataW.Trod enc Tryz.prog W 0 (fun _ => true) true 22 v d ps) :
    ∃ l : List Dm, SlIn W v l ∧ (∀ i, i < l.length → (dt l i).size ≤ maxLen) ∧ l.length ≤ maxLen := by
  obtain ⟨a0, len, cap, rfl⟩ := okWide_slice Tryz.underlying22 hval
  obtain ⟨fuel, hf⟩ := h
  rcases Deep.open_slice Tryz.underlying22 hf with ⟨h1, _⟩ | ⟨a, len', cap', m, n, D, Pl, h1, hb, hl, hm, hmm, hx, hel⟩
  · refine ⟨[], .inl ⟨?_, rfl⟩, fun i hi => by simp at hi, by unfold maxLen; simp⟩
    simpa [Value.cells] using h1
  · have hs : Value.slice a0 len cap = .slice (some a) len' cap' := by simpa [Value.cells] using h1
    rw [hs]
    have hlm : len' ≤ m := by rw [hmm]; simp; exact hl
    have each : ∀ i, i < len' → ∃ d : Dm, W.cells? 0 (a.add (i * 3)) 3 = some (dmL d) ∧ d.t.size ≤ maxLen := fun i hi => by
      obtain ⟨cs', g1, g2⟩ := hel i (by omega)
      rw [cells_ldm] at g1
      obtain ⟨_, hlen, _⟩ := World.cells?_some g1
      obtain ⟨d, rfl, ht⟩ := open_node hlen g2
      exact ⟨d, g1, ht⟩
    obtain ⟨f, hfl⟩ := Deep.choose_lt each
    have hlen : ((List.range len').map f).length = len' := by simp
    have hget : ∀ i, i < len' → ((List.range len').map f).getD i default = f i := fun i hi => by simp [List.getD, hi]
    refine ⟨(List.range len').map f, .inr ⟨a, cap', by rw [hlen], fun i j v hi hv => ?_, fun h0 => ?_⟩, fun i hi => ?_, by rw [hlen]; omega⟩
    · rw [hlen] at hi
      rw [hget i hi] at hv
      obtain ⟨_, _, hc⟩ := World.cells?_some (hfl i hi).1
      have hj : j < 3 := by
        have := (List.getElem?_eq_some_iff.1 hv).1
        simpa [dmL] using this
      rw [hc j hj]
      exact hv
    · rw [hlen] at h0
      obtain ⟨_, _, hc⟩ := World.cells?_some (hfl 0 h0).1
      have h2 := hc 0 (by decide)
      have h3 : W.cell? ((a.add (0 * 3)).add 0) = some (.int .i64 (f 0).k) := by rw [h2]; rfl
      exact block_lt_of_cell (a := a) (by simpa [Addr.add] using h3)
    · rw [hlen] at hi
      unfold dt
      rw [hget i hi]
      exact (hfl i hi).2
end Go.Proofs.YtmpghgaijphniaaGreatDoor
